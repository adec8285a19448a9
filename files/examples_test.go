package files_test

import (
	"slices"
	"strings"
	"testing"

	"massif/api"
	"massif/disk"
	"massif/files"
)

// tells holds a disk's files against those of the document.
func tells(t *testing.T, what string, d *disk.Disk, want three) {
	t.Helper()
	if got := d.Files(); !slices.Equal(got, want.list()) {
		t.Errorf("%s: the files are %s, want %s", what, short(shown(got)), short(shown(want.list())))
	}
}

// itemIs holds Item against what it must answer.
func itemIs(t *testing.T, what string, s *files.Store, i uint64, item string, e api.Errno) {
	t.Helper()
	if got, gotE := s.Item(i); got != item || gotE != e {
		t.Errorf("%s: Item(%d): %q, %d, want %q, %d", what, i, short(got), gotE, short(item), e)
	}
}

// nodeIs holds Node against what it must answer.
func nodeIs(t *testing.T, what string, s *files.Store, p uint64, digest string, e api.Errno) {
	t.Helper()
	if got, gotE := s.Node(p); got != digest || gotE != e {
		t.Errorf("%s: Node(%d): %q, %d, want %q, %d", what, p, got, gotE, digest, e)
	}
}

// must is the store that Open answers.
func must(t *testing.T, what string, d *disk.Disk, k int) *files.Store {
	t.Helper()
	s, e := files.Open(d, k)
	if s == nil || e != api.OK {
		t.Fatalf("%s: Open: %v, %d", what, s != nil, e)
	}
	return s
}

// refused has Open answer no store and an error, without an act and with the same files behind it.
func refused(t *testing.T, what string, d *disk.Disk, k int, e api.Errno) {
	t.Helper()
	acts, was := d.Acts(), d.Files()
	s, got := files.Open(d, k)
	if s != nil || got != e {
		t.Errorf("%s: Open at strength %d: %v, %d, want %d", what, k, s != nil, got, e)
	}
	is(t, what+": Acts behind a refused Open", d.Acts(), acts)
	if !slices.Equal(d.Files(), was) {
		t.Errorf("%s: a refused Open has changed the files", what)
	}
}

// firstMark is the marker of the chapter's first example.
func firstMark() marker {
	return marker{k: 2, size: 1, items: 9, nodes: 40, chain: sum(zeros(4) + payload("a") + node(0, "aa"))}
}

// one is the disk and the store of the chapter's first example.
func one(t *testing.T) (*disk.Disk, *files.Store) {
	t.Helper()
	d := disk.New(100000)
	s := must(t, "example 1", d, 2)
	is(t, "example 1: Size", s.Size(), 0)
	is(t, "example 1: Acts", d.Acts(), 3)
	is(t, "example 1: Add", s.Add("a", []string{"aa"}), api.OK)
	return d, s
}

// two is that of the second one.
func two(t *testing.T) (*disk.Disk, *files.Store) {
	t.Helper()
	d, s := one(t)
	is(t, "example 2: Add", s.Add("b", []string{"bb"}), api.ErrNodes)
	is(t, "example 2: Add", s.Add("b", []string{"bb", "ab"}), api.OK)
	return d, s
}

func TestExampleOne(t *testing.T) {
	d, s := one(t)
	tells(t, "example 1", d, three{payload("a"), node(0, "aa"), firstMark().row()})
	is(t, "example 1: Acts", d.Acts(), 9)
	is(t, "example 1: Size", s.Size(), 1)
	itemIs(t, "example 1", s, 0, "a", 0)
	nodeIs(t, "example 1", s, 0, "aa", 0)
	itemIs(t, "example 1", s, 1, "", 31)
	nodeIs(t, "example 1", s, 1, "", 31)
}

func TestExampleTwo(t *testing.T) {
	d, s := two(t)
	nodeIs(t, "example 2", s, 2, "ab", 0)
	is(t, "example 2: Add", s.Add("c", []string{"c"}), api.ErrNodes)
	first := firstMark()
	nodes := node(1, "bb") + node(2, "ab")
	second := marker{k: 2, size: 2, items: 18, nodes: 120, chain: sum(four(first.chain) + payload("b") + nodes)}
	tells(t, "example 2", d, three{payload("a") + payload("b"), node(0, "aa") + nodes, first.row() + second.row()})
	is(t, "example 2: Acts", d.Acts(), 15)
}

func TestExampleThree(t *testing.T) {
	d, s := two(t)
	d.Lay(api.Fate{At: 6, Kind: 1})
	is(t, "example 3: Add", s.Add("c", []string{"cc"}), api.ErrFault)
	is(t, "example 3: Size", s.Size(), 2)
	is(t, "example 3: Lame", s.Lame(), true)
	is(t, "example 3: Add", s.Add("c", []string{"cc"}), api.ErrLame)
	u := must(t, "example 3", d, 2)
	is(t, "example 3: Size of the one opened anew", u.Size(), 3)
	itemIs(t, "example 3", u, 2, "c", 0)
	nodeIs(t, "example 3", u, 3, "cc", 0)
}

func TestExampleFour(t *testing.T) {
	for _, keep := range everyKeep(8) {
		d, s := two(t)
		d.Lay(api.Fate{At: 5, Kind: 4, Keep: keep})
		is(t, "example 4: Add", s.Add("c", []string{"cc"}), api.ErrDown)
		itemIs(t, "example 4", s, 0, "", 170)
		is(t, "example 4: Size of what stayed", must(t, "example 4", diskOf(t, 100000, d.Files()), 2).Size(), 2)
	}
}

func TestExampleFive(t *testing.T) {
	d, _ := one(t)
	refused(t, "example 5", d, 3, api.ErrBroken)
	refused(t, "example 5", d, 0, api.ErrStrength)
}

// The hard places.

func TestThirdActFails(t *testing.T) {
	d, s := two(t)
	was := d.Files()
	d.Lay(api.Fate{At: 3, Kind: 1})
	is(t, "P19.4: Add", s.Add("c", []string{"cc"}), api.ErrFault)
	is(t, "P19.4: Lame", s.Lame(), true)
	is(t, "P19.4: Size", s.Size(), 2)
	now, want := filesOf(d.Files()), filesOf(was)
	want.items += payload("c")
	want.nodes += node(3, "cc")
	is(t, "P19.4: what was written stands behind the ends", now, want)
	acts := d.Acts()
	u := must(t, "P19.4", d, 2)
	is(t, "P19.4: Size of the one opened anew", u.Size(), 2)
	tells(t, "P19.4: Open cuts it", d, filesOf(was))
	is(t, "P19.4: Acts of Open", d.Acts()-acts, 5)
	is(t, "P19.4: Add to the one opened anew", u.Add("c", []string{"CC"}), api.OK)
	nodeIs(t, "P19.4", u, 3, "CC", 0)
}

func TestLastSyncFails(t *testing.T) {
	for _, kind := range []int{1, 2, 3} {
		d, s := two(t)
		d.Lay(api.Fate{At: 6, Kind: kind})
		is(t, "P19.4: Add", s.Add("c", []string{"cc"}), []api.Errno{0, 171, 172, 171}[kind])
		is(t, "P19.4: Size", s.Size(), 2)
		is(t, "P19.4: Lame", s.Lame(), true)
		is(t, "P19.4: the marker stands there", d.Size("marks"), 3*markLen)
		acts := d.Acts()
		u := must(t, "P19.4", d, 2)
		is(t, "P19.4: Size of the one opened anew", u.Size(), 3)
		is(t, "P19.4: Acts of Open", d.Acts()-acts, 3)
		is(t, "P19.5: what stays of the marks without a choice", len(filesOf(d.After(nil)).marks), 3*markLen)
	}
}

func TestLameTellsAsBefore(t *testing.T) {
	for at := 1; at <= 6; at++ {
		d, s := two(t)
		d.Lay(api.Fate{At: at, Kind: 1})
		s.Add("c", []string{"cc"})
		is(t, "P19.1: Lame", s.Lame(), true)
		itemIs(t, "P19.1: lame", s, 0, "a", 0)
		itemIs(t, "P19.1: lame", s, 1, "b", 0)
		itemIs(t, "P19.1: lame", s, 2, "", 31)
		nodeIs(t, "P19.1: lame", s, 2, "ab", 0)
		nodeIs(t, "P19.1: lame", s, 3, "", 31)
	}
}

func TestMarkerOfAnotherStrength(t *testing.T) {
	d, _ := two(t)
	for name, tail := range map[string]string{"items": "xyz", "nodes": zeros(40), "marks": zeros(64)} {
		d.Write(name, d.Size(name), tail)
	}
	for _, k := range []int{1, 3, 4, 16, 31, 32} {
		refused(t, "P19.1: a marker of another strength", d, k, api.ErrBroken)
	}
}

func TestDiskWithoutFiles(t *testing.T) {
	for _, room := range []int{-1, 0, 1, great} {
		d := disk.New(room)
		s := must(t, "P19.1: no files", d, 32)
		is(t, "P19.1: Size", s.Size(), 0)
		is(t, "P19.1: Acts", d.Acts(), 3)
		is(t, "P19.1: how many files there are", len(d.Files()), 0)
	}
}

func TestMarksThatEndOtherwise(t *testing.T) {
	for _, x := range []struct {
		tail string
		e    api.Errno
	}{
		{zeros(64), 0}, {zeros(128), 190}, {strings.Repeat("z", 64), 190}, {zeros(63) + "\x01", 190}, {"\x01" + zeros(63), 190},
		{"m", 0}, {zeros(63), 0}, {strings.Repeat("z", 63), 0}, {zeros(64) + "z", 0}, {zeros(64) + strings.Repeat("z", 63), 0},
		{zeros(64) + strings.Repeat("z", 64), 190}, {strings.Repeat("z", 64) + zeros(64), 190},
	} {
		d, _ := two(t)
		was := filesOf(d.Files())
		d.Write("marks", 128, x.tail)
		if x.e != 0 {
			refused(t, "P19.1: marks that end otherwise", d, 2, x.e)
			continue
		}
		acts := d.Acts()
		is(t, "P19.1: Size", must(t, "P19.1", d, 2).Size(), 2)
		tells(t, "P19.1: what stands behind marks is cut", d, was)
		is(t, "P19.1: Acts", d.Acts()-acts, 4)
	}
}

func TestEmptyItems(t *testing.T) {
	p := begun(t, 1, archive{})
	for n := range 9 {
		is(t, "P19.1: Add of no byte", p.add(t, "P19.1", "", make([]string, newNodes(n))), api.ErrNodes)
		is(t, "P19.1: Add of no byte", p.add(t, "P19.1", "", (new(chance)).digests(1, newNodes(n))), api.OK)
		is(t, "P19.1: the items' file", p.d.Size("items"), 8*(n+1))
	}
	is(t, "P19.2: Open", p.open(t, "P19.2", 1), api.OK)
	is(t, "P19.2: Size", p.s.Size(), 9)
}
