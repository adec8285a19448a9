package files_test

import (
	"slices"
	"testing"

	"massif/api"
	"massif/disk"
	"massif/files"
)

// is tells a fault, if an answer is not the one that it must be.
func is[T comparable](t *testing.T, what string, got, want T) {
	t.Helper()
	if got != want {
		t.Errorf("%s: %v, want %v", what, got, want)
	}
}

// diskOf is a disk with files, all synced.
func diskOf(t *testing.T, room int, list []api.File) *disk.Disk {
	t.Helper()
	d, e := disk.Open(room, list)
	if d == nil || e != api.OK {
		t.Fatalf("a disk of %s: %d", short(shown(list)), e)
	}
	return d
}

// pair is a store and the model that it is held against, each on a disk of its own; both are nil till they are opened.
type pair struct {
	d, twin *disk.Disk
	s       *files.Store
	m       *model
}

// pairOf has two disks with the same files, not opened.
func pairOf(t *testing.T, room int, list []api.File) *pair {
	t.Helper()
	return &pair{d: diskOf(t, room, list), twin: diskOf(t, room, list)}
}

// begun is a pair that is opened over what an archive's store has made.
func begun(t *testing.T, k int, a archive) *pair {
	t.Helper()
	p := pairOf(t, great, a.laid(k).list())
	if e := p.open(t, "P19.2", k); e != api.OK {
		t.Fatalf("P19.2: Open of %v: %d", a, e)
	}
	return p
}

// both does something to the two disks, as somebody does it ahead of their opening.
func (p *pair) both(do func(d *disk.Disk)) {
	do(p.d)
	do(p.twin)
}

func (p *pair) lay(f api.Fate) {
	p.both(func(d *disk.Disk) { d.Lay(f) })
}

// open opens both; with an error the old ones stay.
func (p *pair) open(t *testing.T, what string, k int) api.Errno {
	t.Helper()
	s, e := files.Open(p.d, k)
	m, want := openModel(p.twin, k)
	if e != want || (s != nil) != (e == api.OK) {
		t.Fatalf("%s: Open at strength %d: %v, %d, want %d; of %s", what, k, s != nil, e, want, short(shown(p.twin.Files())))
	}
	if e == api.OK {
		p.s, p.m = s, m
	}
	p.alike(t, what+": behind Open")
	return e
}

// add adds to both.
func (p *pair) add(t *testing.T, what, item string, nodes []string) api.Errno {
	t.Helper()
	e, want := p.s.Add(item, nodes), p.m.add(item, nodes)
	if e != want {
		t.Fatalf("%s: Add of %d bytes and %d nodes: %d, want %d; the store has %v", what, len(item), len(nodes), e, want, p.m.has)
	}
	p.alike(t, what+": behind Add")
	return e
}

// keeps are lists of choices at which two disks are looked at.
func keeps() [][]bool {
	return [][]bool{nil, {true}, {true, false}, {false, true}, {true, true, false}, {false, false, true, false, true}}
}

// alike looks at all that the two stores and the two disks tell.
func (p *pair) alike(t *testing.T, what string) {
	t.Helper()
	is(t, what+": Acts", p.d.Acts(), p.twin.Acts())
	is(t, what+": Down", p.d.Down(), p.twin.Down())
	if got, want := p.d.Files(), p.twin.Files(); !slices.Equal(got, want) {
		t.Fatalf("%s: the files are %s, want %s", what, short(shown(got)), short(shown(want)))
	}
	for _, keep := range keeps() {
		if got, want := p.d.After(keep), p.twin.After(keep); !slices.Equal(got, want) {
			t.Fatalf("%s: by %v there stays %s, want %s", what, keep, short(shown(got)), short(shown(want)))
		}
	}
	if p.s != nil {
		p.tellAlike(t, what)
	}
}

// tellAlike looks at what the two stores tell.
func (p *pair) tellAlike(t *testing.T, what string) {
	t.Helper()
	size, count := len(p.m.has.items), len(p.m.has.nodes)
	is(t, what+": Size", p.s.Size(), uint64(size))
	is(t, what+": Lame", p.s.Lame(), p.m.lame)
	for _, i := range numbersAround(size) {
		got, e := p.s.Item(i)
		want, wantE := p.m.item(i)
		if got != want || e != wantE {
			t.Fatalf("%s: Item(%d) of %d: %q, %d, want %q, %d", what, i, size, short(got), e, short(want), wantE)
		}
	}
	for _, at := range numbersAround(count) {
		got, e := p.s.Node(at)
		want, wantE := p.m.node(at)
		if got != want || e != wantE {
			t.Fatalf("%s: Node(%d) of %d: %q, %d, want %q, %d", what, at, count, got, e, want, wantE)
		}
	}
}

// numbersAround are all below n, n itself, and some above.
func numbersAround(n int) []uint64 {
	var list []uint64
	for i := range uint64(n) {
		list = append(list, i)
	}
	over := uint64(n)
	return append(list, over, over+1, over+2, 2*over+1, over+1<<8, over+1<<16, over+1<<32, 1<<40, 1<<41, 1<<62, over+1<<62, 1<<63-1, 1<<63, over+1<<63, greatest-1, greatest)
}

// contents are what a store tells.
func contents(t *testing.T, what string, s *files.Store) archive {
	t.Helper()
	a := archive{}
	for i := range s.Size() {
		item, e := s.Item(i)
		is(t, what+": Item", e, api.OK)
		a.items = append(a.items, item)
	}
	for p := range uint64(nodesOf(int(s.Size()))) {
		digest, e := s.Node(p)
		is(t, what+": Node", e, api.OK)
		a.nodes = append(a.nodes, digest)
	}
	return a
}

// reopened is what a store tells that is opened over files, all synced, without a fate.
func reopened(t *testing.T, what string, k int, list []api.File) archive {
	t.Helper()
	return opened(t, what, k, diskOf(t, great, list))
}

// opened is what a store tells that is opened over a disk without a fate; nothing is loose then.
func opened(t *testing.T, what string, k int, d *disk.Disk) archive {
	t.Helper()
	s, e := files.Open(d, k)
	if s == nil || e != api.OK {
		t.Fatalf("%s: Open: %d, of %s", what, e, short(shown(d.Files())))
	}
	is(t, what+": how many choices there are behind Open", choicesOf(d), 0)
	is(t, what+": Lame behind Open", s.Lame(), false)
	return contents(t, what, s)
}

// choicesOf is how many choices the power's going takes, by chapter 17.
func choicesOf(d *disk.Disk) int {
	now, synced := filesOf(d.Files()), filesOf(d.After(nil))
	count := 0
	for _, x := range [][2]string{{now.items, synced.items}, {now.nodes, synced.nodes}, {now.marks, synced.marks}} {
		if len(x[0]) != len(x[1]) {
			count++
		}
		for from := 0; from < max(len(x[0]), len(x[1])); from += sector {
			if sectorOf(x[0], from) != sectorOf(x[1], from) {
				count++
			}
		}
	}
	return count
}

// sectorOf is a sector of a text, with zeros where it has no bytes.
func sectorOf(s string, from int) string {
	s = s[min(from, len(s)):min(from+sector, len(s))]
	return s + zeros(sector-len(s))
}

// everyKeep are all lists of n choices.
func everyKeep(n int) [][]bool {
	list := [][]bool{nil}
	for range n {
		var longer [][]bool
		for _, keep := range list {
			longer = append(longer, append(slices.Clip(keep), false), append(slices.Clip(keep), true))
		}
		list = longer
	}
	return list
}
