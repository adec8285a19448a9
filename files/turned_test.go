package files_test

import (
	"testing"

	"massif/api"
	"massif/disk"
	"massif/files"
)

// masks are the bits of a byte that are turned.
func masks() []byte {
	return []byte{0x01, 0x02, 0x10, 0x55, 0x80, 0xff}
}

// turned is a text with the bits of mask turned in one byte.
func turned(s string, at int, mask byte) string {
	row := []byte(s)
	row[at] ^= mask
	return string(row)
}

// TestTurned turns each byte of each file, with nothing behind the ends and with something there.
func TestTurned(t *testing.T) {
	c := chance(231)
	for _, k := range []int{1, 2, 32} {
		for _, n := range []int{1, 2, 3, 8} {
			f := archiveOf(&c, k, n).laid(k)
			for _, tail := range []string{"", "behind", zeros(64)} {
				for at := range len(f.items) {
					for _, mask := range masks() {
						isBroken(t, k, three{turned(f.items, at, mask) + tail, f.nodes + tail, f.marks + tail})
					}
				}
				for at := range len(f.nodes) {
					for _, mask := range masks() {
						isBroken(t, k, three{f.items + tail, turned(f.nodes, at, mask) + tail, f.marks + tail})
					}
				}
				for at := range len(f.marks) {
					for _, mask := range masks() {
						isBroken(t, k, three{f.items + tail, f.nodes + tail, turned(f.marks, at, mask) + tail})
					}
				}
			}
		}
	}
}

// isBroken has Open answer ErrBroken, and cut nothing.
func isBroken(t *testing.T, k int, f three) {
	t.Helper()
	refused(t, "P19.7", diskOf(t, great, f.list()), k, 190)
}

// TestTurnedBehindTheEnds turns bytes of which no marker speaks: they are cut.
func TestTurnedBehindTheEnds(t *testing.T) {
	c := chance(232)
	a := archiveOf(&c, 4, 3)
	f := a.laid(4)
	for at := range 40 {
		for _, mask := range masks() {
			tail := turned(node(4, "abcd"), at, mask)
			d := diskOf(t, great, three{f.items + tail, f.nodes + tail, f.marks + tail}.list())
			if got := opened(t, "P19.1", 4, d); !got.equal(a) {
				t.Errorf("P19.1: the store has %v, want %v", got, a)
			}
			tells(t, "P19.1: what no marker speaks of is cut", d, f)
		}
	}
}

// TestTurnedUnderAStore turns bytes on the disk of an opened store: Item and Node read them there.
func TestTurnedUnderAStore(t *testing.T) {
	c := chance(233)
	a := archiveOf(&c, 3, 4)
	f := a.laid(3)
	from := 0
	for i, item := range a.items {
		for at := range payload(item) {
			d := diskOf(t, great, f.list())
			s := must(t, "P19.1", d, 3)
			d.Write("items", from+at, turned(f.items[from+at:from+at+1], 0, 0x41))
			itemIs(t, "P19.1: a record that is not right", s, uint64(i), "", 190)
			d.Cut("items", from+at)
			itemIs(t, "P19.1: a record that is not there", s, uint64(i), "", 190)
		}
		from += len(item) + 8
	}
	for p := range a.nodes {
		for at := range nodeLen {
			d := diskOf(t, great, f.list())
			s := must(t, "P19.1", d, 3)
			at += nodeLen * p
			d.Write("nodes", at, turned(f.nodes[at:at+1], 0, 0x41))
			nodeIs(t, "P19.1: a record that is not right", s, uint64(p), "", 190)
			d.Cut("nodes", at)
			nodeIs(t, "P19.1: a record that is not there", s, uint64(p), "", 190)
		}
	}
}

// TestShorterRecordUnderAStore lays right records of fewer bytes where an item's stood.
func TestShorterRecordUnderAStore(t *testing.T) {
	for _, other := range []string{"", "a", "ab"} {
		d := disk.New(great)
		s := must(t, "P19.1", d, 2)
		is(t, "P19.1: Add", s.Add("abc", []string{"aa"}), api.OK)
		d.Write("items", 0, payload(other))
		itemIs(t, "P19.1: a record that takes fewer bytes", s, 0, "", 190)
	}
}

// TestBehindIsWhereTheMarkersEnd has somebody write behind the ends of a store that is open: Add writes over it.
func TestBehindIsWhereTheMarkersEnd(t *testing.T) {
	d, s := one(t)
	for _, name := range []string{"items", "nodes", "marks"} {
		d.Write(name, d.Size(name), "xyz")
	}
	is(t, "P19.1: Add", s.Add("b", []string{"bb", "ab"}), api.OK)
	tells(t, "P19.1: Add", d, archive{[]string{"a", "b"}, []string{"aa", "bb", "ab"}}.laid(2))
}

// TestSomebodyElsesActs does anything to the files of stores that are open: no call panics, and each ends.
func TestSomebodyElsesActs(t *testing.T) {
	c := chance(234)
	for range 3000 {
		k := pick(&c, 1, 2, 32)
		d := diskOf(t, pick(&c, 500, 3000, great), nil)
		stores := []*files.Store{must(t, "P19.1", d, k), must(t, "P19.1", d, k)}
		for range 30 {
			s := pick(&c, stores...)
			switch c.below(6) {
			case 0:
				name := pick(&c, "items", "nodes", "marks")
				d.Write(name, c.below(d.Size(name)+1), c.text(c.below(100)))
			case 1:
				name := pick(&c, "items", "nodes", "marks")
				d.Cut(name, c.below(d.Size(name)+1))
			case 2:
				if other, e := files.Open(d, pick(&c, k, k, 1, 2, 3, 32)); e == api.OK {
					stores = append(stores, other)
				}
			case 3:
				d.Lay(api.Fate{At: 1 + c.below(6), Kind: c.below(6), Keep: c.keep()})
			default:
				s.Add(c.item(), c.digests(k, newNodes(int(s.Size()))))
			}
			askAll(s)
		}
	}
}

// askAll calls whatever changes nothing.
func askAll(s *files.Store) {
	s.Lame()
	for _, i := range numbersAround(int(s.Size())) {
		s.Item(i)
	}
	for _, p := range numbersAround(nodesOf(int(s.Size()))) {
		s.Node(p)
	}
}

// TestLookingChangesNothing asks all, and looks at the disk.
func TestLookingChangesNothing(t *testing.T) {
	c := chance(235)
	a := archiveOf(&c, 2, 5)
	d := diskOf(t, great, a.laid(2).list())
	s := must(t, "P19.1", d, 2)
	for kind := 1; kind <= 5; kind++ {
		d.Lay(api.Fate{At: 1, Kind: kind})
		askAll(s)
		is(t, "P19.1: Acts", d.Acts(), 3)
		is(t, "P19.1: Down", d.Down(), false)
	}
	tells(t, "P19.1: looking", d, a.laid(2))
	if got := contents(t, "P19.1", s); !got.equal(a) {
		t.Errorf("P19.1: the store has %v, want %v", got, a)
	}
}

// TestOtherFiles has files of other names lie beside: nobody looks at them.
func TestOtherFiles(t *testing.T) {
	beside := []api.File{{Name: "", Data: "none"}, {Name: "Items", Data: "x"}, {Name: "item", Data: zeros(64)}, {Name: "marks2", Data: zeros(128)}, {Name: "node", Data: "y"}}
	d := diskOf(t, great, beside)
	s := must(t, "P19.1", d, 2)
	is(t, "P19.1: Acts", d.Acts(), 3)
	is(t, "P19.1: Add", s.Add("a", []string{"aa"}), api.OK)
	for _, f := range beside {
		got, e := d.Read(f.Name, 0, len(f.Data))
		is(t, "P19.1: a file beside", got, f.Data)
		is(t, "P19.1: a file beside", e, api.OK)
	}
	tells(t, "P19.1", stripped(t, d), three{payload("a"), node(0, "aa"), firstMark().row()})
}

// stripped is a disk with the three files alone.
func stripped(t *testing.T, d *disk.Disk) *disk.Disk {
	t.Helper()
	return diskOf(t, great, filesOf(d.Files()).list())
}
