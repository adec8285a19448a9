package disk_test

import (
	"math"
	"strings"
	"testing"

	"massif/api"
	"massif/disk"
)

// firstExample is the disk of the chapter's first example.
func firstExample(t *testing.T) *disk.Disk {
	t.Helper()
	d := disk.New(200)
	is(t, "example 1: Write", d.Write("a", 0, "xyz"), 0)
	is(t, "example 1: Write beyond", d.Write("a", 5, "q"), 173)
	is(t, "example 1: Write behind", d.Write("a", 3, "q"), 0)
	s, e := d.Read("a", 1, 3)
	is(t, "example 1: Read", s, "yzq")
	is(t, "example 1: Read", e, 0)
	is(t, "example 1: Size", d.Size("a"), 4)
	tells(t, "example 1: Files", d.Files(), "a", "xyzq")
	tells(t, "example 1: After", d.After(nil))
	is(t, "example 1: Sync", d.Sync("a"), 0)
	is(t, "example 1: Acts", d.Acts(), 3)
	return d
}

func TestExamplesOneAndTwo(t *testing.T) {
	d := firstExample(t)
	is(t, "example 2: Write", d.Write("a", 0, "X"), 0)
	tells(t, "example 2: After", d.After([]bool{false}), "a", "xyzq")
	tells(t, "example 2: After", d.After([]bool{true}), "a", "Xyzq")
	is(t, "example 2: Cut", d.Cut("a", 2), 0)
	tells(t, "example 2: After Cut", d.After([]bool{true}), "a", "Xy")
	tells(t, "example 2: After Cut", d.After([]bool{false}), "a", "xyzq")
	tells(t, "example 2: After Cut", d.After([]bool{true, false}), "a", "xy")
	tells(t, "example 2: After Cut", d.After([]bool{false, true}), "a", "Xy\x00\x00")
}

func TestExampleThree(t *testing.T) {
	d := disk.New(70)
	is(t, "example 3: Write", d.Write("b", 0, strings.Repeat("a", 70)), 0)
	is(t, "example 3: Sync", d.Sync("b"), 0)
	is(t, "example 3: Write", d.Write("b", 0, strings.Repeat("b", 70)), 0)
	tells(t, "example 3: After", d.After([]bool{true, false}), "b", strings.Repeat("b", 64)+strings.Repeat("a", 6))
}

func TestExampleFour(t *testing.T) {
	d := firstExample(t)
	d.Lay(api.Fate{At: 2, Kind: 3})
	is(t, "example 4: Write", d.Write("a", 0, "X"), 0)
	is(t, "example 4: Sync", d.Sync("a"), 171)
	tells(t, "example 4: After", d.After(nil), "a", "Xyzq")
	is(t, "example 4: the next act", d.Sync("a"), 0)
	is(t, "example 4: Acts", d.Acts(), 6)
}

func TestExampleFive(t *testing.T) {
	d := firstExample(t)
	is(t, "example 5: Write", d.Write("a", 1, "Y"), 0)
	d.Lay(api.Fate{At: 1, Kind: 4, Keep: []bool{true}})
	ahead := shown(d.After([]bool{true}))
	is(t, "example 5: Write", d.Write("a", 0, "Z"), 170)
	is(t, "example 5: Down", d.Down(), true)
	is(t, "example 5: Files", shown(d.Files()), ahead)
	tells(t, "example 5: Files", d.Files(), "a", "xYzq")
	s, e := d.Read("a", 0, 1)
	is(t, "example 5: Read", s, "")
	is(t, "example 5: Read", e, 170)
	is(t, "example 5: Size", d.Size("a"), 0)
}

func TestExampleSix(t *testing.T) {
	d := disk.New(3)
	is(t, "example 6: Write", d.Write("a", 0, "abcd"), 172)
	is(t, "example 6: Acts", d.Acts(), 0)
	for _, x := range []struct {
		room  int
		files []api.File
		want  api.Errno
	}{
		{3, []api.File{{Name: "a", Data: "abc"}}, 0},
		{2, []api.File{{Name: "a", Data: "abc"}}, 172},
		{9, []api.File{{Name: "a", Data: "x"}, {Name: "a", Data: "y"}}, 173},
	} {
		d, e := disk.Open(x.room, x.files)
		is(t, "example 6: Open", e, x.want)
		is(t, "example 6: whether Open answers a disk", d != nil, x.want == 0)
	}
}

// number is one by a size: below 0, within, at the end, beyond it, or at an end of int.
func (c *chance) number(size int) int {
	switch c.below(10) {
	case 0:
		return pick(c, -1, math.MinInt, math.MinInt+1, math.MaxInt, math.MaxInt-1, -size, size-1<<32)
	case 1:
		return size + 1
	case 2, 3, 4:
		return size
	case 5:
		return min(size, c.below(4)*sector)
	}
	return c.below(size + 1)
}

// length is that of what is written: often some sectors' or one byte more or less.
func (c *chance) length() int {
	if c.below(2) == 0 {
		return max(0, c.below(4)*sector+c.below(3)-1)
	}
	return c.below(200)
}

// call is any, on a disk as the model's.
func (c *chance) call(m *model, list []string) call {
	x := call{name: pick(c, list...)}
	x.op = pick(c, "Write", "Write", "Write", "Write", "Cut", "Cut", "Sync", "Sync", "Read", "Read", "Size", "Acts", "Down", "Files", "After", "After", "Lay")
	size := len(m.files[x.name].now)
	switch x.op {
	case "Write":
		x.off = c.number(size)
		x.data = c.text(c.length())
		if x.off >= 0 && x.off < size && c.below(5) == 0 { // the same bytes once more
			x.data = m.files[x.name].now[x.off:]
		}
	case "Cut":
		x.n = c.number(size)
	case "Read":
		x.off = c.number(size)
		x.n = c.number(size - max(0, min(x.off, size)))
	case "After":
		x.keep = c.keep()
	case "Lay":
		x.fate = c.fate()
	}
	return x
}

func TestCallsByChance(t *testing.T) {
	c := chance(171)
	rooms := []int{0, -1, math.MinInt, 1, 64, 100, 300, 1000, 3000, 1 << 20, math.MaxInt}
	downs := 0
	for round := range 1500 {
		p := fresh(rooms[round%len(rooms)])
		list := names()
		if c.below(2) == 0 { // few files meet the same acts more often
			list = list[:1+c.below(3)]
		}
		for range 120 {
			p.call(t, "P17.1", c.call(p.m, list))
		}
		p.check(t, "P17.1")
		if p.m.down {
			downs++
		}
	}
	if downs < 100 || downs > 1400 {
		t.Errorf("the calls by chance do not try both: %d of 1500 disks went down", downs)
	}
}

// TestWithoutFate holds a disk against a map of texts alone: no synced ones, no sectors.
func TestWithoutFate(t *testing.T) {
	c := chance(172)
	for range 300 {
		d, texts, acts := disk.New(great), map[string]string{}, 0
		for range 60 {
			name := pick(&c, names()...)
			text := texts[name]
			switch c.below(3) {
			case 0:
				off, data := c.below(len(text)+1), c.text(c.length())
				is(t, "P17.2: Write", d.Write(name, off, data), 0)
				texts[name] = text[:off] + data + text[min(len(text), off+len(data)):]
			case 1:
				size := c.below(len(text) + 1)
				is(t, "P17.2: Cut", d.Cut(name, size), 0)
				texts[name] = text[:size]
			case 2:
				is(t, "P17.2: Sync", d.Sync(name), 0)
			}
			acts++
			is(t, "P17.2: Acts", d.Acts(), acts)
			is(t, "P17.2: Size", d.Size(name), len(texts[name]))
			whole, e := d.Read(name, 0, len(texts[name]))
			if whole != texts[name] || e != 0 {
				t.Fatalf("P17.2: Read of %q: %s, %d, want %s", name, short(whole), e, short(texts[name]))
			}
		}
		isMap(t, d, texts)
	}
}

// isMap holds what Files tells against a map of texts.
func isMap(t *testing.T, d *disk.Disk, texts map[string]string) {
	t.Helper()
	list := d.Files()
	for i, f := range list {
		if f.Data == "" || f.Data != texts[f.Name] || i > 0 && list[i-1].Name >= f.Name {
			t.Fatalf("P17.2: Files tells %q: %s, want %s", f.Name, short(f.Data), short(texts[f.Name]))
		}
	}
	count := 0
	for _, text := range texts {
		if text != "" {
			count++
		}
	}
	is(t, "P17.2: how many Files tells", len(list), count)
}

func TestSyncChangesAfterAndActsAlone(t *testing.T) {
	c := chance(173)
	for range 200 {
		p := fresh(great)
		for range 30 {
			x := c.call(p.m, names()[:4])
			if x.op != "Lay" {
				p.call(t, "P17.1", x)
			}
		}
		name := pick(&c, names()[:5]...)
		calls := append(looks(names()), call{op: "Read", name: name, n: p.d.Size(name)})
		var ahead []answer
		for _, x := range calls {
			ahead = append(ahead, x.on(p.d))
		}
		is(t, "P17.2: Sync", p.sync(t, name), 0)
		for i, x := range calls {
			if got := x.on(p.d); got != ahead[i] && x.op != "After" && x.op != "Acts" {
				t.Fatalf("P17.2: %v behind Sync: %v, want %v", x, got, ahead[i])
			}
		}
		p.check(t, "P17.2")
	}
}

// edges are numbers about a size, below 0, and at the ends of int.
func edges(size int) []int {
	return []int{math.MinInt, math.MinInt + size, -1 << 32, -2, -1, 0, 1, size / 2, size - 1, size, size + 1, size + 64, 1 << 28, 1<<28 + 1, 1<<32 + size, math.MaxInt - size, math.MaxInt - 1, math.MaxInt}
}

func TestPlaces(t *testing.T) {
	for _, size := range []int{0, 1, 63, 64, 65, 128, 129} {
		for _, off := range edges(size) {
			for _, data := range []string{"", "x", strings.Repeat("x", 64), strings.Repeat("x", size)} {
				p := opened(t, great, api.File{Name: "a", Data: strings.Repeat("a", size)})
				p.call(t, "P17.1", call{op: "Write", name: "a", off: off, data: data})
				p.check(t, "P17.1")
			}
			p := opened(t, great, api.File{Name: "a", Data: strings.Repeat("a", size)})
			p.call(t, "P17.1", call{op: "Cut", name: "a", n: off})
			p.check(t, "P17.1")
			for _, n := range edges(size) {
				p.call(t, "P17.1", call{op: "Read", name: "a", off: off, n: n})
			}
			p.check(t, "P17.5")
		}
	}
}

func TestWriteAtTheEndAndBeyond(t *testing.T) {
	d := disk.New(10)
	is(t, "P17.1: Write at 1 of a file that is not there", d.Write("a", 1, "x"), 173)
	is(t, "P17.1: Write at 1 without data", d.Write("a", 1, ""), 173)
	is(t, "P17.1: Write at 0", d.Write("a", 0, "ab"), 0)
	is(t, "P17.1: Write at the end", d.Write("a", 2, "c"), 0)
	is(t, "P17.1: Write one beyond", d.Write("a", 4, "d"), 173)
	is(t, "P17.1: Write over the end", d.Write("a", 2, "CD"), 0)
	is(t, "P17.1: Write ahead of 0", d.Write("a", -1, "x"), 173)
	tells(t, "P17.1: Files", d.Files(), "a", "abCD")
	is(t, "P17.1: Acts", d.Acts(), 3)
}

func TestFullDisk(t *testing.T) {
	d := disk.New(6)
	is(t, "P17.1: Write", d.Write("a", 0, "abc"), 0)
	is(t, "P17.1: Write", d.Write("b", 0, "de"), 0)
	is(t, "P17.1: two above the room's one", d.Write("a", 3, "xy"), 172)
	is(t, "P17.1: two above, over own bytes", d.Write("a", 2, "xyz"), 172)
	is(t, "P17.1: of a new file", d.Write("c", 0, "xy"), 172)
	is(t, "P17.1: the last byte of the room", d.Write("b", 1, "ef"), 0)
	is(t, "P17.1: one more", d.Write("b", 3, "g"), 172)
	is(t, "P17.1: one more of another", d.Write("c", 0, "g"), 172)
	is(t, "P17.1: over own bytes", d.Write("a", 0, "ABC"), 0)
	is(t, "P17.1: over some of them", d.Write("b", 1, "E"), 0)
	is(t, "P17.1: without data", d.Write("c", 0, ""), 0)
	is(t, "P17.1: without data at the end", d.Write("a", 3, ""), 0)
	is(t, "P17.1: place ahead of room", d.Write("a", 4, "xyz"), 173)
	is(t, "P17.1: Acts", d.Acts(), 7)
	tells(t, "P17.1: Files", d.Files(), "a", "ABC", "b", "dEf")
	is(t, "P17.1: Cut", d.Cut("a", 1), 0)
	is(t, "P17.1: three into the room of two", d.Write("b", 3, "xyz"), 172)
	is(t, "P17.1: two into it", d.Write("b", 3, "xy"), 0)
	is(t, "P17.1: one more", d.Write("b", 5, "z"), 172)
	tells(t, "P17.1: Files", d.Files(), "a", "A", "b", "dEfxy")
}

func TestRoomIsThatOfBytesNotOfSyncedOnes(t *testing.T) {
	d, e := disk.Open(4, []api.File{{Name: "a", Data: "abcd"}})
	is(t, "P17.1: Open", e, 0)
	is(t, "P17.1: Cut", d.Cut("a", 0), 0)
	is(t, "P17.1: Write", d.Write("b", 0, "efgh"), 0)
	is(t, "P17.1: Sync", d.Sync("b"), 0)
	is(t, "P17.1: Write into no room", d.Write("a", 0, "x"), 172)
	stayed := d.After(nil)
	tells(t, "P17.3: After", stayed, "a", "abcd", "b", "efgh")
	d, e = disk.Open(4, stayed)
	is(t, "P17.1: Open of more than the room", e, 172)
	is(t, "R1: whether Open answers a disk", d != nil, false)
	_, e = disk.Open(8, stayed)
	is(t, "P17.1: Open of just the room", e, 0)
}

func TestNoRoom(t *testing.T) {
	for _, room := range []int{0, -1, math.MinInt} {
		d := disk.New(room)
		is(t, "P17.1: Write", d.Write("a", 0, "x"), 172)
		is(t, "P17.1: Write without data", d.Write("a", 0, ""), 0)
		is(t, "P17.1: Cut", d.Cut("a", 0), 0)
		is(t, "P17.1: Sync", d.Sync("a"), 0)
		is(t, "P17.1: Acts", d.Acts(), 3)
		is(t, "P17.1: Size", d.Size("a"), 0)
		is(t, "P17.1: how many files", len(d.Files())+len(d.After([]bool{true})), 0)
		_, e := disk.Open(room, []api.File{{Name: "a", Data: "x"}})
		is(t, "P17.1: Open of a byte", e, 172)
		d, e = disk.Open(room, []api.File{{Name: "a"}, {Name: "b"}})
		is(t, "P17.1: Open without bytes", e, 0)
		is(t, "P17.1: Write", d.Write("a", 0, "x"), 172)
		is(t, "P17.1: how many files", len(d.Files()), 0)
	}
}

func TestWriteOfNothing(t *testing.T) {
	for _, off := range []int{0, 2, 4} {
		p := opened(t, 10, api.File{Name: "a", Data: "abcd"})
		is(t, "P17.1: Write without data", p.write(t, "a", off, ""), 0)
		is(t, "P17.1: Acts", p.d.Acts(), 1)
		tells(t, "P17.1: Files", p.d.Files(), "a", "abcd")
		for _, keep := range someKeeps() {
			tells(t, "P17.3: After", p.d.After(keep), "a", "abcd")
		}
		is(t, "P17.1: a name that nobody wrote to", p.write(t, "b", 0, ""), 0)
		p.check(t, "P17.1")
	}
}

func TestReadOfNothing(t *testing.T) {
	d := disk.New(10)
	d.Write("a", 0, "abc")
	for _, x := range []struct {
		name   string
		off, n int
		text   string
		e      api.Errno
	}{
		{"a", 0, 0, "", 0}, {"a", 3, 0, "", 0}, {"a", 4, 0, "", 173}, {"a", 0, 3, "abc", 0}, {"a", 3, 1, "", 173}, {"a", 0, 4, "", 173},
		{"b", 0, 0, "", 0}, {"b", 1, 0, "", 173}, {"b", 0, 1, "", 173}, {"a", 0, -1, "", 173}, {"a", -1, 0, "", 173}, {"a", -1, 2, "", 173}, {"a", 4, -1, "", 173},
		{"a", 1, math.MaxInt, "", 173}, {"a", math.MaxInt, 1, "", 173}, {"a", math.MaxInt, math.MaxInt, "", 173}, {"a", math.MinInt, math.MinInt, "", 173}, {"a", math.MaxInt, math.MinInt, "", 173}, {"a", 2, math.MaxInt - 1, "", 173},
	} {
		text, e := d.Read(x.name, x.off, x.n)
		if text != x.text || e != x.e {
			t.Errorf("P17.1: Read(%q, %d, %d): %q, %d, want %q, %d", x.name, x.off, x.n, text, e, x.text, x.e)
		}
	}
	is(t, "P17.1: Acts", d.Acts(), 1)
}

func TestOpenOfOneNameTwice(t *testing.T) {
	for _, x := range [][]api.File{
		{{Name: "a", Data: "x"}, {Name: "a", Data: "x"}},
		{{Name: "a", Data: "x"}, {Name: "a"}},
		{{Name: "a"}, {Name: "a", Data: "x"}},
		{{Name: "a"}, {Name: "a"}},
		{{}, {}},
		{{Name: "a", Data: "x"}, {Name: "b"}, {Name: "\xff"}, {Name: "b", Data: "y"}},
	} {
		for _, room := range []int{great, 2, 1, 0, -1} { // ErrPlace comes ahead of ErrRoom
			d, e := disk.Open(room, x)
			is(t, "P17.1: Open of "+shown(x), e, 173)
			is(t, "R1: whether Open answers a disk", d != nil, false)
		}
	}
}

func TestOpenOfMoreThanTheRoom(t *testing.T) {
	list := []api.File{{Name: "a", Data: "abc"}, {Name: ""}, {Name: "b", Data: "defg"}, {Name: "\xff", Data: "h"}}
	for room := -2; room < 12; room++ {
		d, e := disk.Open(room, list)
		if room < 8 {
			is(t, "P17.1: Open", e, 172)
			is(t, "R1: whether Open answers a disk", d != nil, false)
			continue
		}
		is(t, "P17.1: Open", e, 0)
		is(t, "P17.1: Write of more than is left", d.Write("c", 0, strings.Repeat("x", room-8+1)), 172)
		is(t, "P17.1: Write of what is left", d.Write("c", 0, strings.Repeat("x", room-8)), 0)
	}
	_, e := disk.Open(math.MaxInt, list)
	is(t, "P17.1: Open with the greatest room", e, 0)
}

func TestOpenIsSynced(t *testing.T) {
	c := chance(174)
	for range 100 {
		var list []api.File
		for _, name := range names() {
			if c.below(2) == 0 {
				list = append(list, api.File{Name: name, Data: c.text(c.length())})
			}
		}
		p := opened(t, great, list...)
		for _, keep := range append(someKeeps(), c.keep()) {
			is(t, "P17.3: After of a disk that was opened", shown(p.d.After(keep)), shown(p.d.Files()))
		}
		is(t, "P17.1: Acts", p.d.Acts(), 0)
		is(t, "P17.1: Down", p.d.Down(), false)
		p.check(t, "P17.1")
		for range 40 {
			p.call(t, "P17.1", c.call(p.m, names()))
		}
		p.check(t, "P17.1")
	}
}

func TestOpenOfWhatAfterTold(t *testing.T) {
	c := chance(175)
	for range 200 {
		p := fresh(great)
		for range 40 {
			p.call(t, "P17.1", c.call(p.m, names()[:5]))
		}
		stayed := p.d.After(c.keep())
		again := opened(t, great, stayed...)
		is(t, "P17.1: Files of what After told", shown(again.d.Files()), shown(stayed))
		for _, keep := range someKeeps() {
			is(t, "P17.3: After of what After told", shown(again.d.After(keep)), shown(stayed))
		}
		for range 40 {
			again.call(t, "P17.1", c.call(again.m, names()[:5]))
		}
		again.check(t, "P17.1")
	}
}

func TestFilesByTheirNames(t *testing.T) {
	d := disk.New(100)
	order := []string{"b", "é", "", "aa", "\xff", "a", "B", "\x00", "a\x00", "\x7f", "\x80"}
	for _, name := range order {
		d.Write(name, 0, "1")
	}
	want := []string{"", "1", "\x00", "1", "B", "1", "a", "1", "a\x00", "1", "aa", "1", "b", "1", "\x7f", "1", "\x80", "1", "é", "1", "\xff", "1"}
	tells(t, "P17.1: Files", d.Files(), want...)
	tells(t, "P17.1: After", d.After([]bool{true}), want...)
	d.Cut("B", 0)
	d.Cut("\xff", 0)
	want = []string{"", "1", "\x00", "1", "a", "1", "a\x00", "1", "aa", "1", "b", "1", "\x7f", "1", "\x80", "1", "é", "1"}
	tells(t, "P17.1: Files", d.Files(), want...)
	tells(t, "P17.1: After", d.After([]bool{true}), want...)
}

// TestGreatestFile is of files at MaxFile and of one byte more.
func TestGreatestFile(t *testing.T) {
	more := strings.Repeat("m", longest+1)
	whole := more[:longest]
	d := disk.New(longest + 1)
	is(t, "P17.1: Write of MaxFile and one", d.Write("a", 0, more), 173)
	is(t, "P17.1: Acts", d.Acts(), 0)
	is(t, "P17.1: Write of MaxFile less one", d.Write("a", 0, more[2:]), 0)
	is(t, "P17.1: Write of two more", d.Write("a", longest-1, "xy"), 173)
	is(t, "P17.1: Write of the last one", d.Write("a", longest-1, "x"), 0)
	is(t, "P17.1: Write of one more", d.Write("a", longest, "y"), 173)
	is(t, "P17.1: Write of nothing more", d.Write("a", longest, ""), 0)
	is(t, "P17.1: Write of nothing beyond", d.Write("a", longest+1, ""), 173)
	is(t, "P17.1: Write of MaxFile and one over it", d.Write("a", 0, more), 173)
	is(t, "P17.1: Write of MaxFile at 1", d.Write("a", 1, whole), 173)
	is(t, "P17.1: Write over the last", d.Write("a", longest-2, "zz"), 0)
	is(t, "P17.1: the room's last byte, of another", d.Write("b", 0, "b"), 0)
	is(t, "P17.1: place ahead of room", d.Write("a", longest, "y"), 173)
	is(t, "P17.1: room", d.Write("b", 1, "b"), 172)
	is(t, "P17.1: Size", d.Size("a"), longest)
	s, e := d.Read("a", longest-3, 3)
	is(t, "P17.1: Read of the last ones", s, "mzz")
	is(t, "P17.1: Read of the last ones", e, 0)
	is(t, "P17.1: Acts", d.Acts(), 5)
	openAtMost(t, more)
}

// openAtMost opens disks with a file of MaxFile bytes, and of one more.
func openAtMost(t *testing.T, more string) {
	for _, room := range []int{math.MaxInt, longest, 0} {
		d, e := disk.Open(room, []api.File{{Name: "b", Data: "x"}, {Name: "a", Data: more}})
		is(t, "P17.1: Open of MaxFile and one", e, 173)
		is(t, "R1: whether Open answers a disk", d != nil, false)
	}
	d, e := disk.Open(longest, []api.File{{Name: "a", Data: more[1:]}})
	is(t, "P17.1: Open of MaxFile", e, 0)
	is(t, "P17.1: Size", d.Size("a"), longest)
	is(t, "P17.1: Write of one more", d.Write("a", longest, "y"), 173)
	is(t, "P17.1: Write over the last", d.Write("a", longest-1, "y"), 0)
	stayed := d.After(nil)
	if len(stayed) != 1 || stayed[0].Data != more[1:] {
		t.Errorf("P17.3: After of MaxFile bytes is not what was synced")
	}
	_, e = disk.Open(longest-1, stayed)
	is(t, "P17.1: Open of MaxFile in less room", e, 172)
}
