package ledger_test

import (
	"fmt"
	"slices"
	"testing"

	"massif/api"
	"massif/disk"
	"massif/ledger"
)

// fateErrors are what an act answers that a fate of each kind meets.
func fateErrors() []api.Errno {
	return []api.Errno{0, 171, 172, 171, 170, 170}
}

// appending is an Append that a fate meets: to a ledger that has items, of one or more.
type appending struct {
	k    int
	has  []string
	more []string
}

// appendings are small ones: with no item and with some, of items that fill no sector, of some that fill a part of the next, and of two at once.
func appendings() []appending {
	c := chance(331)
	var list []appending
	for n := range 4 {
		for _, lengths := range [][]int{{0}, {1}, {50}, {90}, {1, 60}} {
			x := appending{k: pick(&c, 1, 2, 20, 32), has: c.items(n)}
			for _, length := range lengths {
				x.more = append(x.more, c.text(length))
			}
			list = append(list, x)
		}
	}
	return list
}

// ahead is what the ledger has ahead of the item whose acts have the number at among them.
func (x appending) ahead(at int) []string {
	return slices.Concat(x.has, x.more[:(at-1)/6])
}

// behind is that with the item.
func (x appending) behind(at int) []string {
	return slices.Concat(x.has, x.more[:(at-1)/6+1])
}

// begin is a ledger that has the items, on a disk on which a fate lies.
func (x appending) begin(t *testing.T, f api.Fate) (*disk.Disk, *ledger.Ledger) {
	t.Helper()
	d := diskOf(t, great, rightly(t, x.k, x.has))
	l := must(t, "P20.1", d, x.k)
	d.Lay(f)
	return d, l
}

// met is the disk behind the Append that the fate meets.
func (x appending) met(t *testing.T, f api.Fate) *disk.Disk {
	t.Helper()
	d, l := x.begin(t, f)
	acts, items := d.Acts(), x.ahead(f.At)
	is(t, "P20.2: Append that a fate meets", answered(l.Append(x.more...)), answer[int]{(f.At - 1) / 6, fateErrors()[f.Kind]})
	is(t, "P20.2: Acts of the Append", d.Acts()-acts, f.At)
	is(t, "P20.7: Append of nothing", answered(l.Append()), answer[int]{0, 0})
	is(t, "P20.7: a second Append", answered(l.Append(x.more...)), answer[int]{0, 191})
	is(t, "P20.7: Acts of a second Append", d.Acts()-acts, f.At)
	is(t, "P20.7: Size", answered(l.Size()), answer[uint64]{uint64(len(items)), 0})
	is(t, "P20.7: Root", answered(l.Root(uint64(len(items)))), answer[api.Root]{rootOf(x.k, items), 0})
	is(t, "P20.7: Root of one more", answered(l.Root(uint64(len(items)+1))), answer[api.Root]{api.Root{}, 30})
	for i, item := range items {
		want := answer[string]{item, 0}
		if d.Down() {
			want = answer[string]{"", 170}
		}
		is(t, "P20.7: Get", answered(l.Get(uint64(i))), want)
	}
	is(t, "P20.7: Get of one more", answered(l.Get(uint64(len(items)))), answer[string]{"", 31})
	return d
}

// oneOfTwo holds what an opened ledger has against the list, and the list with the item under way.
func oneOfTwo(t *testing.T, promise string, got, has, will []string) {
	t.Helper()
	if !slices.Equal(got, has) && !slices.Equal(got, will) {
		t.Fatalf("%s: the ledger opened anew has %s, want %s or %s", promise, quoted(got), quoted(has), quoted(will))
	}
}

// TestCrashInAppend has the power go at each act of Append, ahead of it and behind it, with every choice of what stays.
func TestCrashInAppend(t *testing.T) {
	t.Parallel()
	for _, x := range appendings() {
		for at := 1; at <= 6*len(x.more); at++ {
			for _, kinds := range [][2]int{{1, 4}, {3, 5}} { // the first leaves as much loose as the second
				loose := choicesOf(x.met(t, api.Fate{At: at, Kind: kinds[0]}))
				for _, keep := range everyKeep(loose) {
					x.crash(t, api.Fate{At: at, Kind: kinds[1], Keep: keep})
				}
			}
		}
	}
}

// crash has the power go in Append, and opens what stays.
func (x appending) crash(t *testing.T, f api.Fate) {
	t.Helper()
	d := x.met(t, f)
	has, will := x.ahead(f.At), x.behind(f.At)
	refused(t, "P20.1: Open without power", d, x.k, 170)
	got := reopened(t, "P0.2", x.k, d.Files())
	oneOfTwo(t, "P0.2", got, has, will)
	marks := filesOf(d.Files()).marks
	more := len(marks) == len(will)*markLen && marks[len(marks)-markLen:] != zeros(markLen)
	is(t, "P0.2: whether the item is there whose marker stayed", slices.Equal(got, will), more)
	act := (f.At-1)%6 + 1
	sure := act == 6 && f.Kind == 5
	never := act < 5 || act == 5 && f.Kind == 4
	is(t, "P0.2: whether an item that was synced is lost, or one is there without a marker", sure && !more || never && more, false)
	secondLife(t, x.k, d.Files(), got)
}

// secondLife opens what stayed, and goes on.
func secondLife(t *testing.T, k int, left []api.File, has []string) {
	t.Helper()
	d := diskOf(t, great, left)
	l := must(t, "P0.2", d, k)
	is(t, "P0.2: Append in a second life", answered(l.Append("next")), answer[int]{1, 0})
	want := append(slices.Clip(has), "next")
	is(t, "P0.2: Root in a second life", answered(l.Root(uint64(len(want)))), answer[api.Root]{rootOf(k, want), 0})
	for _, keep := range [][]bool{nil, {true}, {true, false}} {
		same(t, "P0.2: a second life", reopened(t, "P0.2: a second life", k, d.After(keep)), want)
	}
}

// TestFaultInAppend has each act of Append fail, find no room or be in doubt: what the same disk has, and what is there if the power goes then, with every choice of what stays.
func TestFaultInAppend(t *testing.T) {
	t.Parallel()
	for _, x := range appendings() {
		for at := 1; at <= 6*len(x.more); at++ {
			for kind := 1; kind <= 3; kind++ {
				d := x.met(t, api.Fate{At: at, Kind: kind})
				for _, keep := range everyKeep(choicesOf(d)) {
					oneOfTwo(t, "P0.3: without power", reopened(t, "P0.3: without power", x.k, d.After(keep)), x.ahead(at), x.behind(at))
				}
				want := x.ahead(at)
				if act := (at-1)%6 + 1; act == 6 || act == 5 && kind == 3 { // the marker is there
					want = x.behind(at)
				}
				same(t, "P0.3", opened(t, "P0.3", x.k, d), want)
				sameFiles(t, "P0.3: behind Open", d.Files(), rightly(t, x.k, want))
				secondLife(t, x.k, d.Files(), want)
			}
		}
	}
}

// TestNoFateInAppend has fates that wait for an act behind the Append's own: refused calls and looking are none.
func TestNoFateInAppend(t *testing.T) {
	for _, x := range appendings() {
		for kind := 1; kind <= 5; kind++ {
			d, l := x.begin(t, api.Fate{At: 6*len(x.more) + 1, Kind: kind})
			is(t, "P20.2: Append of too much", answered(l.Append(overlong())), answer[int]{0, 100})
			is(t, "P20.2: Append", answered(l.Append(x.more...)), answer[int]{len(x.more), 0})
			is(t, "P20.2: Append of nothing", answered(l.Append()), answer[int]{0, 0})
			will := slices.Concat(x.has, x.more)
			accepts(t, new(chance), "P0.4", l, x.k, will)
			same(t, "P20.4", contents(t, "P20.4", l), will)
			l.Close()
			_, e := ledger.Open(d, x.k)
			is(t, "P20.1: Open that the fate meets", e, fateErrors()[kind])
		}
	}
}

// start is how a disk comes to be opened: it is made anew at each call.
type start struct {
	k         int
	has, will []string
	disk      func() *disk.Disk
}

// starts are disks behind an Append that a fate met: the same disk, with loose bytes, and new ones of what stayed, each once.
func starts(t *testing.T) []start {
	t.Helper()
	var list []start
	for _, x := range []appending{
		{1, nil, []string{"a"}}, {8, []string{"a", "", "c"}, []string{""}}, {32, counted(3), []string{zeros(90)}},
	} {
		var seen []string
		for at := 1; at <= 6; at++ {
			for kind := 1; kind <= 3; kind++ {
				made := func() *disk.Disk { return x.met(t, api.Fate{At: at, Kind: kind}) }
				list = append(list, start{x.k, x.ahead(at), x.behind(at), made})
				d := made()
				for _, keep := range everyKeep(choicesOf(d)) {
					left := d.After(keep)
					if text := fmt.Sprintf("%q", left); !slices.Contains(seen, text) {
						seen = append(seen, text)
						list = append(list, start{x.k, x.ahead(at), x.behind(at), func() *disk.Disk { return diskOf(t, great, left) }})
					}
				}
			}
		}
	}
	return list
}

// openedWith is the disk behind an Open that a fate meets; false, if Open makes no such act.
func (b start) openedWith(t *testing.T, f api.Fate) (*disk.Disk, bool) {
	t.Helper()
	d := b.disk()
	acts := d.Acts()
	d.Lay(f)
	l, e := ledger.Open(d, b.k)
	if d.Acts()-acts < f.At {
		is(t, "P20.1: Open that no fate meets", e, 0)
		return nil, false
	}
	is(t, "P20.1: Open that a fate meets", e, fateErrors()[f.Kind])
	is(t, "R1: whether Open answers a ledger", l != nil, false)
	is(t, "P20.1: Acts of Open", d.Acts()-acts, f.At)
	return d, true
}

// TestFatesInOpen has each act of Open meet each fate, with every choice of what stays; then the disk is opened again.
func TestFatesInOpen(t *testing.T) {
	t.Parallel()
	most := 0
	for _, b := range starts(t) {
		for at := 1; ; at++ {
			failed, ok := b.openedWith(t, api.Fate{At: at, Kind: 1})
			if !ok {
				most = max(most, at-1)
				break
			}
			full, _ := b.openedWith(t, api.Fate{At: at, Kind: 2})
			doubt, _ := b.openedWith(t, api.Fate{At: at, Kind: 3})
			b.crashInOpen(t, api.Fate{At: at, Kind: 4}, choicesOf(failed))
			b.crashInOpen(t, api.Fate{At: at, Kind: 5}, choicesOf(doubt))
			for _, d := range []*disk.Disk{failed, full, doubt} {
				b.faultThenOpen(t, d)
			}
		}
	}
	is(t, "the most acts of an Open", most, 6)
}

// faultThenOpen opens the same disk again, and what would stay of it.
func (b start) faultThenOpen(t *testing.T, d *disk.Disk) {
	t.Helper()
	for _, keep := range everyKeep(choicesOf(d)) {
		oneOfTwo(t, "P0.3: Open, without power", reopened(t, "P0.3: Open", b.k, d.After(keep)), b.has, b.will)
	}
	has := opened(t, "P0.3: Open", b.k, d)
	oneOfTwo(t, "P0.3: Open", has, b.has, b.will)
	for _, keep := range keeps() { // what was told once
		same(t, "R10", reopened(t, "R10", b.k, d.After(keep)), has)
	}
}

// crashInOpen has the power go in Open, with every choice of what stays.
func (b start) crashInOpen(t *testing.T, f api.Fate, choices int) {
	t.Helper()
	for _, keep := range everyKeep(choices) {
		f.Keep = keep
		d, _ := b.openedWith(t, f)
		refused(t, "P20.1: Open without power", d, b.k, 170)
		oneOfTwo(t, "P0.2: Open", reopened(t, "P0.2: Open", b.k, d.Files()), b.has, b.will)
	}
}
