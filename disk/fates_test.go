package disk_test

import (
	"math"
	"strings"
	"testing"

	"massif/api"
	"massif/disk"
)

// acts are one of each kind on the disk of halfSynced.
func acts() []call {
	return []call{
		{op: "Write", name: "a", off: 0, data: "XY"},
		{op: "Write", name: "a", off: 4, data: "more"},
		{op: "Write", name: "new", off: 0, data: "new"},
		{op: "Write", name: "a", off: 0, data: ""},
		{op: "Cut", name: "a", n: 1},
		{op: "Cut", name: "a", n: 0},
		{op: "Cut", name: "none", n: 0},
		{op: "Sync", name: "a"},
		{op: "Sync", name: "b"},
		{op: "Sync", name: "none"},
	}
}

// halfSynced is a disk with files some bytes of which are loose.
func halfSynced(t *testing.T) pair {
	t.Helper()
	p := opened(t, 1000, api.File{Name: "a", Data: "abc"}, api.File{Name: "b", Data: strings.Repeat("s", 130)})
	is(t, "P17.1: Write", p.write(t, "a", 1, "BCD"), 0)
	is(t, "P17.1: Write", p.write(t, "b", 60, strings.Repeat("n", 90)), 0)
	return p
}

// kinds are the five fates, by the document's table.
func kinds() []struct {
	kind       int
	e          api.Errno
	done, down bool
} {
	return []struct {
		kind       int
		e          api.Errno
		done, down bool
	}{{1, 171, false, false}, {2, 172, false, false}, {3, 171, true, false}, {4, 170, false, true}, {5, 170, true, true}}
}

// TestEveryFateOnEveryAct has each fate meet each act, at once and later, and looks at all that is told then.
func TestEveryFateOnEveryAct(t *testing.T) {
	for _, k := range kinds() {
		for _, act := range acts() {
			for at := 1; at <= 4; at++ {
				for _, keep := range someKeeps() {
					p := halfSynced(t)
					p.lay(api.Fate{At: at, Kind: k.kind, Keep: keep})
					for range at - 1 {
						is(t, "P17.4: an act ahead of the fate's", p.write(t, "c", p.d.Size("c"), "c"), 0)
					}
					undone := shown(p.d.After(keep))
					before := p.d.Acts()
					is(t, "P17.4: what a fate's act answers", p.call(t, "P17.4", act).e, k.e)
					is(t, "P17.4: Acts", p.d.Acts(), before+1)
					is(t, "P17.4: Down", p.d.Down(), k.down)
					if !k.done {
						is(t, "P17.4: what is not done changes nothing", shown(p.d.After(keep)), undone)
					}
					p.check(t, "P17.4")
					for range 5 {
						for _, next := range acts() {
							if next.op == "Write" && next.off > p.d.Size(next.name) {
								continue
							}
							want := api.OK
							if k.down {
								want = api.ErrDown
							}
							is(t, "P17.4: an act behind the fate's", p.call(t, "P17.4", next).e, want)
						}
					}
					p.check(t, "P17.4")
				}
			}
		}
	}
}

// TestDoneAndNotDone says by hand what each fate leaves of a Write, a Cut and a Sync.
func TestDoneAndNotDone(t *testing.T) {
	for _, k := range kinds() {
		d, _ := disk.Open(100, []api.File{{Name: "a", Data: "abc"}})
		d.Lay(api.Fate{At: 1, Kind: k.kind, Keep: []bool{true}})
		is(t, "P17.4: Write", d.Write("a", 0, "X"), k.e)
		if k.done {
			tells(t, "P17.4: Files behind Write", d.Files(), "a", "Xbc")
		} else {
			tells(t, "P17.4: Files behind Write", d.Files(), "a", "abc")
		}
		d, _ = disk.Open(100, []api.File{{Name: "a", Data: "abc"}})
		d.Lay(api.Fate{At: 1, Kind: k.kind, Keep: []bool{true}})
		is(t, "P17.4: Cut", d.Cut("a", 1), k.e)
		if k.done {
			tells(t, "P17.4: Files behind Cut", d.Files(), "a", "a")
		} else {
			tells(t, "P17.4: Files behind Cut", d.Files(), "a", "abc")
		}
		d, _ = disk.Open(100, []api.File{{Name: "a", Data: "abc"}})
		d.Write("a", 0, "X")
		d.Lay(api.Fate{At: 1, Kind: k.kind})
		is(t, "P17.4: Sync", d.Sync("a"), k.e)
		if k.done {
			tells(t, "P17.4: After behind Sync", d.After(nil), "a", "Xbc")
		} else {
			tells(t, "P17.4: After behind Sync", d.After(nil), "a", "abc")
		}
	}
}

func TestFateMeetsOneAct(t *testing.T) {
	for _, k := range []int{1, 2, 3} {
		for at := 1; at <= 6; at++ {
			d := disk.New(100)
			d.Lay(api.Fate{At: at, Kind: k, Keep: []bool{true}})
			for i := 1; i <= 20; i++ {
				e := d.Sync("a")
				is(t, "P17.4: whether the act meets a fate", e != 0, i == at)
			}
			is(t, "P17.1: Acts", d.Acts(), 20)
		}
	}
}

func TestFatesOneBehindTheOther(t *testing.T) {
	d := disk.New(100)
	for _, k := range []int{1, 2, 3, 1, 2, 3} {
		d.Lay(api.Fate{At: 2, Kind: k})
		is(t, "P17.4: the first act from then on", d.Sync("a"), 0)
		is(t, "P17.4: the second", d.Sync("a"), []api.Errno{0, 171, 172, 171}[k])
		is(t, "P17.4: the third", d.Sync("a"), 0)
	}
}

// refusals are calls that their own errors refuse on the disk of TestFateWaits.
func refusals() []call {
	return []call{
		{op: "Write", name: "a", off: -1, data: "x"},
		{op: "Write", name: "a", off: 4, data: "x"},
		{op: "Write", name: "a", off: 4},
		{op: "Write", name: "a", off: 3, data: "xyzxyz"},
		{op: "Write", name: "new", off: 1, data: "x"},
		{op: "Cut", name: "a", n: 4},
		{op: "Cut", name: "a", n: -1},
		{op: "Cut", name: "new", n: 1},
		{op: "Read", name: "a", off: 1, n: 3},
	}
}

func TestFateWaits(t *testing.T) {
	for _, k := range kinds() {
		for at := 1; at <= 3; at++ {
			p := opened(t, 8, api.File{Name: "a", Data: "abc"})
			p.lay(api.Fate{At: at, Kind: k.kind})
			for range at {
				is(t, "P17.1: Acts ahead of the fate's", p.d.Acts() < at, true)
				for _, x := range refusals() {
					e := p.call(t, "P17.4", x).e
					is(t, "P17.4: what refuses a call while a fate waits", e == 172 || e == 173, true)
				}
				for _, x := range looks(names()) {
					p.call(t, "P17.5", x)
				}
				if p.d.Acts() < at-1 {
					is(t, "P17.4: an act ahead of the fate's", p.write(t, "a", 0, "abc"), 0)
				}
			}
			is(t, "P17.4: the fate's act", p.write(t, "a", 0, "x"), k.e)
			is(t, "P17.1: Acts", p.d.Acts(), at)
		}
	}
}

func TestReadWhileActsFail(t *testing.T) {
	p := opened(t, 8, api.File{Name: "a", Data: "abc"})
	for _, k := range []int{1, 2, 3} {
		p.lay(api.Fate{At: 1, Kind: k})
		s, e := p.d.Read("a", 0, 3)
		is(t, "P17.1: Read ahead", s, "abc")
		is(t, "P17.1: Read ahead", e, 0)
		p.sync(t, "a")
		s, e = p.d.Read("a", 0, 3)
		is(t, "P17.1: Read behind", s, "abc")
		is(t, "P17.1: Read behind", e, 0)
	}
}

func TestFateInTheOthersPlace(t *testing.T) {
	for _, first := range kinds() {
		for _, second := range kinds() {
			for _, at := range []int{1, 2, 3} {
				p := halfSynced(t)
				p.lay(api.Fate{At: 2, Kind: first.kind, Keep: []bool{true}})
				is(t, "P17.4: an act ahead", p.sync(t, "c"), 0)
				p.lay(api.Fate{At: at, Kind: second.kind, Keep: []bool{false, true}})
				for range at - 1 {
					is(t, "P17.4: the forgotten fate's act", p.write(t, "c", 0, "c"), 0)
				}
				is(t, "P17.4: the new fate's act", p.cut(t, "a", 2), second.e)
				p.check(t, "P17.4")
			}
		}
	}
}

// noFates are those of no kind, or of no act.
func noFates() []api.Fate {
	var list []api.Fate
	for _, kind := range []int{0, 6, 7, -1, -4, 1<<32 + 4, 1<<8 + 1, math.MinInt, math.MaxInt} {
		list = append(list, api.Fate{At: 1, Kind: kind, Keep: []bool{true}})
	}
	for _, at := range []int{0, -1, -2, -1<<32 + 1, math.MinInt, math.MinInt + 1} {
		for kind := range 6 {
			list = append(list, api.Fate{At: at, Kind: kind, Keep: []bool{true}})
		}
	}
	return list
}

func TestFatesThatAreNone(t *testing.T) {
	for _, none := range noFates() {
		p := halfSynced(t)
		p.lay(none)
		for _, x := range acts() {
			is(t, "P17.4: an act without a fate", p.call(t, "P17.4", x).e, 0)
		}
		for _, k := range kinds() { // it takes the place of one that lay
			p.lay(api.Fate{At: 1, Kind: k.kind})
			p.lay(none)
			for range 4 {
				is(t, "P17.4: an act without a fate", p.sync(t, "b"), 0)
			}
		}
		p.check(t, "P17.4")
	}
}

func TestFateFarAway(t *testing.T) {
	for _, at := range []int{1000, 1 << 32, 1<<32 + 1, math.MaxInt} {
		d := disk.New(10)
		d.Lay(api.Fate{At: at, Kind: 4})
		for range 999 {
			is(t, "P17.4: an act ahead of a fate that is far away", d.Sync("a"), 0)
		}
		want := api.OK
		if at == 1000 {
			want = api.ErrDown
		}
		is(t, "P17.4: the thousandth act", d.Sync("a"), want)
	}
}

func TestLateSync(t *testing.T) {
	for _, keep := range someKeeps() {
		d, _ := disk.Open(300, []api.File{{Name: "a", Data: "abc"}, {Name: "b", Data: "s"}})
		d.Write("a", 1, "XYZ")
		d.Write("b", 0, "n")
		d.Lay(api.Fate{At: 1, Kind: 5, Keep: keep})
		is(t, "P17.4: Sync", d.Sync("a"), 170)
		want := "s"
		if len(keep) > 0 && keep[0] {
			want = "n"
		}
		tells(t, "P17.4: what was synced late stays; b's is the first choice", d.Files(), "a", "aXYZ", "b", want)
	}
}

func TestCrashOfASync(t *testing.T) {
	d, _ := disk.Open(300, []api.File{{Name: "a", Data: "abc"}})
	d.Write("a", 1, "XYZ")
	d.Lay(api.Fate{At: 1, Kind: 4, Keep: []bool{true, false}})
	is(t, "P17.4: Sync", d.Sync("a"), 170)
	tells(t, "P17.4: what was not synced is loose", d.Files(), "a", "abc\x00")
}

// TestDownForEver makes calls by chance behind the power's going: nothing moves.
func TestDownForEver(t *testing.T) {
	c := chance(191)
	for range 100 {
		for _, k := range []int{4, 5} {
			p := halfSynced(t)
			keep := c.keep()
			p.lay(api.Fate{At: 1, Kind: k, Keep: keep})
			want := shown(p.d.After(keep))
			p.write(t, "a", 0, "") // nothing more to be done: what stays is the same for both kinds
			is(t, "P17.4: Files", shown(p.d.Files()), want)
			acts := p.d.Acts()
			for range 60 {
				x := c.call(p.m, names())
				got := x.on(p.d)
				if x.op == "Write" || x.op == "Cut" || x.op == "Sync" || x.op == "Read" {
					is(t, "P17.4: "+x.op, got, answer{e: 170})
				}
			}
			is(t, "P17.4: Acts", p.d.Acts(), acts)
			is(t, "P17.4: Down", p.d.Down(), true)
			is(t, "P17.4: Size", p.d.Size("a"), 0)
			is(t, "P17.4: Files", shown(p.d.Files()), want)
			for _, keep := range someKeeps() {
				is(t, "P17.4: After", shown(p.d.After(keep)), want)
			}
		}
	}
}

// TestDownAheadOfOtherErrors has calls that are wrong in every way: ErrDown stands first.
func TestDownAheadOfOtherErrors(t *testing.T) {
	d, _ := disk.Open(3, []api.File{{Name: "a", Data: "abc"}})
	d.Lay(api.Fate{At: 1, Kind: 4})
	d.Sync("a")
	for _, n := range edges(3) {
		is(t, "R1: Write", d.Write("a", n, "abcdefg"), 170)
		is(t, "R1: Write", d.Write("b", n, "abcdefg"), 170)
		is(t, "R1: Cut", d.Cut("a", n), 170)
		is(t, "R1: Cut", d.Cut("b", n), 170)
		for _, m := range edges(3) {
			s, e := d.Read("a", n, m)
			is(t, "R1: Read", s, "")
			is(t, "R1: Read", e, 170)
		}
	}
	tells(t, "P17.4: Files", d.Files(), "a", "abc")
}

func TestLayOnceDown(t *testing.T) {
	for _, k := range kinds() {
		p := halfSynced(t)
		p.lay(api.Fate{At: 1, Kind: 4})
		p.sync(t, "a")
		want := shown(p.d.Files())
		p.lay(api.Fate{At: 1, Kind: k.kind, Keep: []bool{true}})
		for _, x := range acts() {
			is(t, "P17.4: an act once the power is out", p.call(t, "P17.4", x).e, 170)
		}
		is(t, "P17.4: Files", shown(p.d.Files()), want)
		p.check(t, "P17.4")
	}
}

// TestKeepsOfFates has the fate's Keep choose just as After's does.
func TestKeepsOfFates(t *testing.T) {
	keeps := everyKeep(5)
	for _, old := range []int{0, 1, 63, 64, 65, 129} {
		for _, now := range []int{0, 1, 63, 64, 65, 129} {
			for _, keep := range keeps {
				p := loose(t, "a", strings.Repeat("s", old), strings.Repeat("n", now))
				want := shown(p.d.After(keep))
				p.lay(api.Fate{At: 1, Kind: 4, Keep: keep})
				p.sync(t, "a")
				is(t, "P17.4: what stays by a fate's Keep", shown(p.d.Files()), want)
			}
		}
	}
}
