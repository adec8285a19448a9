package disk_test

import (
	"slices"
	"strings"
	"testing"

	"massif/api"
	"massif/disk"
)

// lengths are those at which sectors begin and end.
func lengths() []int {
	return []int{0, 1, 63, 64, 65, 127, 128, 129, 192, 200}
}

// everyKeep are all lists of up to n choices.
func everyKeep(n int) [][]bool {
	list := [][]bool{nil}
	for size := 1; size <= n; size++ {
		for bits := range 1 << size {
			keep := make([]bool, size)
			for i := range keep {
				keep[i] = bits>>i&1 == 1
			}
			list = append(list, keep)
		}
	}
	return list
}

// loose is a disk on which a file has these bytes and these synced ones.
func loose(t *testing.T, name, synced, now string) pair {
	t.Helper()
	p := opened(t, great, api.File{Name: name, Data: synced})
	p.write(t, name, 0, now)
	p.cut(t, name, len(now))
	return p
}

func TestEveryKeep(t *testing.T) {
	keeps := everyKeep(6) // one for the length, and one for each of up to four sectors
	for _, old := range lengths() {
		for _, now := range lengths() {
			p := loose(t, "a", strings.Repeat("s", old), strings.Repeat("n", now))
			for _, keep := range keeps {
				p.call(t, "P17.3", call{op: "After", keep: keep})
			}
		}
	}
}

func TestSomeSectorsWritten(t *testing.T) {
	c := chance(181)
	for _, size := range lengths() {
		for range 40 {
			p := opened(t, great, api.File{Name: "a", Data: strings.Repeat("s", size)})
			for range 1 + c.below(3) {
				off := c.below(size + 1)
				p.write(t, "a", off, strings.Repeat("n", c.below(size-off+2)))
			}
			for _, keep := range everyKeep(4) {
				p.call(t, "P17.3", call{op: "After", keep: keep})
			}
		}
	}
}

// TestChoicesByHand has what stays written out: which choice is whose.
func TestChoicesByHand(t *testing.T) {
	rep := strings.Repeat
	for _, x := range []struct {
		what, synced, now string
		keep              []bool
		want              string
	}{
		{"longer now: the length alone", "", "n", []bool{true, false}, "\x00"},
		{"longer now: the sector alone", "", "n", []bool{false, true}, ""},
		{"longer now, the length alone, two sectors", rep("s", 64), rep("s", 64) + "nn", []bool{true, false}, rep("s", 64) + "\x00\x00"},
		{"longer now, the sector alone", rep("s", 64), rep("s", 64) + "nn", []bool{false, true}, rep("s", 64)},
		{"longer now, within a sector, the length alone", "ss", "ssnn", []bool{true, false}, "ss\x00\x00"},
		{"longer now, within a sector, the sector alone", "ss", "nnnn", []bool{false, true}, "nn"},
		{"longer synced: the length alone", "ssss", "nn", []bool{true, false}, "ss"},
		{"longer synced: the sector alone", "ssss", "nn", []bool{false, true}, "nn\x00\x00"},
		{"longer synced: the second sector is chosen, though the length is that of one", rep("s", 65), rep("n", 3), []bool{true, false, true}, "sss"},
		{"longer synced: the second sector as it is, which is nothing", rep("s", 66), rep("n", 3), []bool{false, false, true}, rep("s", 64) + "\x00\x00"},
		{"the same length takes no choice", rep("s", 65), rep("n", 65), []bool{true, false}, rep("n", 64) + "s"},
		{"a sector that is the same takes no choice", rep("s", 130), rep("n", 64) + rep("s", 64) + "nn", []bool{false, true}, rep("s", 128) + "nn"},
		{"zeros behind are no difference: the length alone is chosen", "s", "s\x00\x00", []bool{true, false}, "s\x00\x00"},
		{"zeros behind are no difference", "s", "s\x00\x00", []bool{false, true}, "s"},
		{"a file of zeros", "", rep("\x00", 65), []bool{true, false}, rep("\x00", 65)},
		{"from the first again", rep("s", 256), rep("n", 256), []bool{true, false, false}, rep("n", 64) + rep("s", 128) + rep("n", 64)},
		{"cut to nothing: the length", rep("s", 65), "", []bool{true, false, false}, ""},
		{"cut to nothing: the sectors", rep("s", 65), "", []bool{false, true, false}, rep("\x00", 64) + "s"},
	} {
		p := loose(t, "a", x.synced, x.now)
		var want []string
		if x.want != "" {
			want = []string{"a", x.want}
		}
		tells(t, "P17.3: "+x.what, p.d.After(x.keep), want...)
	}
}

func TestTheSameBytesOnceMore(t *testing.T) {
	c := chance(182)
	for _, size := range lengths() {
		whole := c.text(size)
		p := opened(t, great, api.File{Name: "a", Data: whole}, api.File{Name: "b", Data: "s"})
		p.write(t, "b", 0, "n")
		for at := range size + 1 {
			p.cut(t, "a", at)
			p.write(t, "a", at, whole[at:])
			for _, keep := range someKeeps() { // the one choice is b's
				data := "s"
				if len(keep) > 0 && keep[0] {
					data = "n"
				}
				want := []string{"a", whole, "b", data}
				if whole == "" {
					want = want[2:]
				}
				tells(t, "P17.3: cut and written again", p.d.After(keep), want...)
			}
		}
	}
}

func TestTwoWritesOfOneSector(t *testing.T) {
	d := disk.New(100)
	d.Write("a", 0, strings.Repeat("s", 64))
	d.Sync("a")
	d.Write("a", 0, "1")
	d.Write("a", 63, "2")
	for _, keep := range everyKeep(3) {
		want := strings.Repeat("s", 64)
		if len(keep) > 0 && keep[0] {
			want = "1" + want[:62] + "2"
		}
		tells(t, "P17.3: two writes of one sector", d.After(keep), "a", want)
	}
}

func TestCutToNothing(t *testing.T) {
	d := disk.New(100)
	d.Write("a", 0, "abc")
	d.Sync("a")
	is(t, "P17.1: Cut", d.Cut("a", 0), 0)
	tells(t, "P17.1: Files", d.Files())
	tells(t, "P17.3: After(none)", d.After(nil), "a", "abc")
	tells(t, "P17.3: After(true)", d.After([]bool{true}))
	d.Sync("a")
	tells(t, "P17.3: After(none) behind Sync", d.After(nil))
	d.Write("a", 0, "x")
	tells(t, "P17.3: After(none) of one that was synced as nothing", d.After(nil))
	tells(t, "P17.3: After(true, false)", d.After([]bool{true, false}), "a", "\x00")
}

func TestChoicesByTheNames(t *testing.T) {
	order := []string{"", "\x00", "B", "a", "a\x00", "aa", "b", "é", "\xff"}
	c := chance(183)
	for range 20 {
		d := disk.New(100)
		shuffled := slices.Clone(order)
		for i := range shuffled {
			j := i + c.below(len(shuffled)-i)
			shuffled[i], shuffled[j] = shuffled[j], shuffled[i]
		}
		for _, name := range shuffled {
			d.Write(name, 0, "s")
			d.Sync(name)
		}
		for _, name := range shuffled {
			d.Write(name, 0, "n")
		}
		for i := range order {
			keep := make([]bool, len(order))
			keep[i] = true
			var want []string
			for j, name := range order {
				if i == j {
					want = append(want, name, "n")
				} else {
					want = append(want, name, "s")
				}
			}
			tells(t, "P17.3: one choice of several files", d.After(keep), want...)
		}
	}
}

// TestFilesWithoutBytesTakeChoices is of a file that has synced bytes alone, between two others.
func TestFilesWithoutBytesTakeChoices(t *testing.T) {
	d, _ := disk.Open(100, []api.File{{Name: "a", Data: "s"}, {Name: "b", Data: "s"}, {Name: "c", Data: "s"}, {Name: "d"}})
	d.Write("a", 0, "n")
	d.Cut("b", 0)
	d.Write("c", 0, "n")
	d.Write("bb", 0, "") // no file: no choice
	tells(t, "P17.3: a alone", d.After([]bool{true, false, false, false}), "a", "n", "b", "s", "c", "s")
	tells(t, "P17.3: b's length alone", d.After([]bool{false, true, false, false}), "a", "s", "c", "s")
	tells(t, "P17.3: b's sector alone", d.After([]bool{false, false, true, false}), "a", "s", "b", "\x00", "c", "s")
	tells(t, "P17.3: c alone", d.After([]bool{false, false, false, true}), "a", "s", "b", "s", "c", "n")
}

// TestSectorsWhole holds what stays against the promise's own words: each sector is one of two, the length one of two.
func TestSectorsWhole(t *testing.T) {
	c := chance(184)
	for range 400 {
		synced, now := c.text(c.length()), c.text(c.length())
		p := loose(t, "a", synced, now)
		for range 20 {
			data := ""
			if list := p.d.After(c.keep()); len(list) > 0 {
				data = list[0].Data
			}
			if len(data) != len(now) && len(data) != len(synced) {
				t.Fatalf("P17.3: %d bytes stay of %d and %d", len(data), len(now), len(synced))
			}
			for from := 0; from < len(data); from += sector {
				part := data[from:min(from+sector, len(data))]
				if part != partOf(now, from, len(part)) && part != partOf(synced, from, len(part)) {
					t.Fatalf("P17.3: the sector from %d on is neither what the file had nor what was synced", from)
				}
			}
		}
		is(t, "P17.3: true alone", shown(p.d.After([]bool{true})), shown(p.d.Files()))
		is(t, "P17.3: true alone", shown(p.d.After([]bool{true, true, true})), shown(p.d.Files()))
		was := opened(t, great, api.File{Name: "a", Data: synced})
		for _, keep := range [][]bool{nil, {}, {false}, {false, false}} {
			is(t, "P17.3: false alone, or none", shown(p.d.After(keep)), shown(was.d.Files()))
		}
	}
}

// partOf is n bytes of a text from a place on, with zeros where it has none.
func partOf(s string, from, n int) string {
	return filled(s, max(len(s), from+n))[from : from+n]
}

func TestWhatWasSyncedLastStays(t *testing.T) {
	c := chance(185)
	for range 300 {
		p := fresh(great)
		list := names()[:5]
		for range 30 {
			x := c.call(p.m, list)
			if x.op != "Lay" {
				p.call(t, "P17.1", x)
			}
		}
		is(t, "P17.1: Sync", p.sync(t, "a"), 0)
		want, _ := p.d.Read("a", 0, p.d.Size("a"))
		for range 10 { // what is done to others is not done to it
			x := c.call(p.m, list)
			if x.name != "a" && x.op != "Lay" {
				p.call(t, "P17.1", x)
			}
		}
		for _, keep := range append(someKeeps(), c.keep(), c.keep(), c.keep()) {
			has(t, p.d.After(keep), "a", want)
		}
		p.lay(api.Fate{At: 1, Kind: pick(&c, api.FateCrash, api.FateLate), Keep: c.keep()})
		is(t, "P17.4: Write", p.write(t, "other", 0, "x"), 170)
		has(t, p.d.Files(), "a", want)
	}
}

// has looks for a file in a list; one without bytes must not be there.
func has(t *testing.T, list []api.File, name, want string) {
	t.Helper()
	got := ""
	for _, f := range list {
		if f.Name == name {
			got = f.Data
		}
	}
	if got != want {
		t.Fatalf("P17.3: what was synced last does not stay: %s, want %s", short(got), short(want))
	}
}

// TestSyncedInSteps is of files that grow, are cut and overwritten between Syncs, at every place.
func TestSyncedInSteps(t *testing.T) {
	c := chance(186)
	for range 60 {
		p := fresh(great)
		for range 60 {
			size := len(p.m.files["a"].now)
			switch c.below(5) {
			case 0:
				p.write(t, "a", size, c.text(c.length()))
			case 1:
				p.write(t, "a", c.below(size+1), c.text(c.below(9)))
			case 2:
				p.cut(t, "a", c.below(size+1))
			default:
				p.sync(t, "a")
			}
			for _, keep := range someKeeps() {
				p.call(t, "P17.3", call{op: "After", keep: keep})
			}
		}
	}
}
