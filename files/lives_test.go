package files_test

import (
	"testing"

	"massif/api"
	"massif/disk"
	"massif/files"
)

// history is one disk behind the other, and what must be there.
type history struct {
	k     int
	d     *disk.Disk
	sure  archive  // what the last opened store had, with all whose Add was OK since
	maybe *archive // that with the item whose Add was under way, if one was
}

// TestLivesByChance has lives one behind the other: fates meet any act of Open and of Add, the power goes or not, and any bytes stay.
func TestLivesByChance(t *testing.T) {
	c := chance(221)
	most := 0
	for range 250 {
		h := &history{k: pick(&c, 1, 2, 3, 16, 31, 32), d: disk.New(great)}
		for range 40 {
			h.life(t, &c)
		}
		most = max(most, len(h.sure.items))
	}
	if most < 50 {
		t.Errorf("the longest history has %d items alone", most)
	}
}

// life opens the disk, adds some items, and ends in one way or another.
func (h *history) life(t *testing.T, c *chance) {
	t.Helper()
	if c.below(3) > 0 {
		h.d.Lay(api.Fate{At: 1 + c.below(20), Kind: 1 + c.below(5), Keep: c.keep()})
	}
	if s, e := files.Open(h.d, h.k); e == api.OK {
		h.found(t, s)
		h.addSome(t, c, s)
	} else if e == api.ErrBroken || s != nil {
		t.Fatalf("P19.3: Open: %v, %d, of %s", s != nil, e, short(shown(h.d.Files())))
	}
	switch {
	case h.d.Down():
		h.d = diskOf(t, great, h.d.Files())
	case c.below(3) == 0:
		h.d = diskOf(t, great, h.d.After(c.keep()))
	}
}

// found holds what a store has that was just opened against what must be there; from now on that is sure.
func (h *history) found(t *testing.T, s *files.Store) {
	t.Helper()
	got := contents(t, "P19.3", s)
	if !got.equal(h.sure) && (h.maybe == nil || !got.equal(*h.maybe)) {
		t.Fatalf("P19.3: the store has %v, want %v or, if an Add was under way (%v), that and its item", got, h.sure, h.maybe != nil)
	}
	h.sure, h.maybe = got, nil
	if n := choicesOf(h.d); n != 0 {
		t.Fatalf("P19.5: what is told may be lost: there are %d choices", n)
	}
}

// addSome adds items, till one finds an error.
func (h *history) addSome(t *testing.T, c *chance, s *files.Store) {
	t.Helper()
	for range c.below(6) {
		item, nodes := c.text(pick(c, 0, 1, 30, 64, 300, 3000)), c.digests(h.k, newNodes(len(h.sure.items)))
		will := h.sure.with(item, nodes)
		if e := s.Add(item, nodes); e != api.OK {
			h.maybe = &will
			is(t, "R9: Add behind an error of the disk", s.Add(item, nodes), 191)
			return
		}
		h.sure = will
	}
	if !h.d.Down() {
		if got := contents(t, "P19.2", s); !got.equal(h.sure) {
			t.Fatalf("P19.2: the store has %v, want %v", got, h.sure)
		}
	}
}

// TestCrashesOfLargerFiles has the power go at each act of Add and Open with larger files, and any bytes stay.
func TestCrashesOfLargerFiles(t *testing.T) {
	c := chance(222)
	for _, n := range []int{10, 31, 63, 127} {
		x := adding{k: 32, has: archiveOf(&c, 32, n), item: c.text(5000), nodes: c.digests(32, newNodes(n))}
		for at := 1; at <= 6; at++ {
			for kind := 1; kind <= 5; kind++ {
				for range 6 {
					d := x.met(t, api.Fate{At: at, Kind: kind, Keep: c.keep()})
					left := d.After(c.keep())
					oneOfTwo(t, "P19.3", reopened(t, "P19.3", x.k, left), x.has, x.will())
					e := diskOf(t, great, left)
					e.Lay(api.Fate{At: 1 + c.below(6), Kind: 1 + c.below(5), Keep: c.keep()})
					files.Open(e, x.k)
					oneOfTwo(t, "P19.3: Open", reopened(t, "P19.3: Open", x.k, e.After(c.keep())), x.has, x.will())
				}
			}
		}
	}
}

// TestOrderOfActs has each act of Open fail in turn, with all three files to be cut and to be synced: what is done by then is told by the bytes, and by what would stay.
func TestOrderOfActs(t *testing.T) {
	a := archiveOf(new(chance), 2, 3)
	old := a.first(2).laid(2)
	now := a.laid(2)
	tail := zeros(64)
	for at := 1; at <= 6; at++ {
		d := diskOf(t, great, old.list())
		d.Write("items", len(old.items), now.items[len(old.items):]+tail)
		d.Write("nodes", len(old.nodes), now.nodes[len(old.nodes):]+tail)
		d.Write("marks", len(old.marks), now.marks[len(old.marks):]+tail)
		d.Lay(api.Fate{At: at, Kind: 1})
		s, e := files.Open(d, 2)
		is(t, "P19.1: Open", e, 171)
		is(t, "R1: whether Open answers a store", s != nil, false)
		want, synced := three{now.items + tail, now.nodes + tail, now.marks + tail}, old
		for i, do := range []func(){
			func() { want.items = now.items },
			func() { want.nodes = now.nodes },
			func() { want.marks = now.marks },
			func() { synced.items = now.items },
			func() { synced.nodes = now.nodes },
		} {
			if i+1 < at {
				do()
			}
		}
		is(t, "P19.1: what Open has cut", filesOf(d.Files()), want)
		is(t, "P19.1: what Open has synced", filesOf(d.After(nil)), synced)
	}
}
