package ledger_test

import (
	"slices"
	"testing"

	"massif/api"
	"massif/disk"
	"massif/ledger"
)

// history is one disk behind the other, and what must be there.
type history struct {
	k     int
	d     *disk.Disk
	sure  []string // what the last opened ledger had, with all that was appended since
	maybe []string // that with the item that was under way; nil, if none was
}

// TestLivesByChance has lives one behind the other: fates meet any act of Open and of Append, the power goes or not, and any bytes stay.
func TestLivesByChance(t *testing.T) {
	t.Parallel()
	c := chance(341)
	most := 0
	for range 100 {
		h := &history{k: pick(&c, 1, 2, 3, 16, 31, 32), d: disk.New(great)}
		for range 40 {
			h.life(t, &c)
		}
		most = max(most, len(h.sure))
	}
	if most < 50 {
		t.Errorf("the longest history has %d items alone", most)
	}
}

// life opens the disk, appends some items, and ends in one way or another.
func (h *history) life(t *testing.T, c *chance) {
	t.Helper()
	if c.below(3) > 0 {
		h.d.Lay(api.Fate{At: 1 + c.below(30), Kind: 1 + c.below(5), Keep: c.keep()})
	}
	if l, e := ledger.Open(h.d, h.k); e == 0 {
		h.found(t, c, l)
		h.appendSome(t, c, l)
	} else if e == 190 || l != nil {
		t.Fatalf("P0.2: Open: %v, %d, of %s", l != nil, e, shown(h.d.Files()))
	}
	switch {
	case h.d.Down():
		h.d = diskOf(t, great, h.d.Files())
	case c.below(3) == 0:
		h.d = diskOf(t, great, h.d.After(c.keep()))
	}
}

// found holds what a ledger has that was just opened against what must be there; from now on that is sure.
func (h *history) found(t *testing.T, c *chance, l *ledger.Ledger) {
	t.Helper()
	got := contents(t, "P0.2", l)
	if !slices.Equal(got, h.sure) && (h.maybe == nil || !slices.Equal(got, h.maybe)) {
		t.Fatalf("P0.2: the ledger has %s, want %s or, if an item was under way (%v), that and the item", quoted(got), quoted(h.sure), h.maybe != nil)
	}
	h.sure, h.maybe = got, nil
	if n := choicesOf(h.d); n != 0 {
		t.Fatalf("R10: what is told may be lost: there are %d choices", n)
	}
	h.tells(t, c, l)
}

// tells holds the ledger's commitment and proofs against what it has for sure.
func (h *history) tells(t *testing.T, c *chance, l *ledger.Ledger) {
	t.Helper()
	size := uint64(len(h.sure))
	is(t, "P20.3: Size", answered(l.Size()), answer[uint64]{size, 0})
	is(t, "P0.1: Root", answered(l.Root(size)), answer[api.Root]{rootOf(h.k, h.sure), 0})
	accepts(t, c, "P0.4", l, h.k, h.sure)
}

// appendSome appends some items at a time, till one finds an error.
func (h *history) appendSome(t *testing.T, c *chance, l *ledger.Ledger) {
	t.Helper()
	for range c.below(4) {
		items := c.items(c.below(4))
		n, e := l.Append(items...)
		h.sure = append(slices.Clip(h.sure), items[:n]...)
		if e != 0 {
			h.maybe = append(slices.Clip(h.sure), items[n])
			is(t, "R9: Append behind an error of the disk", answered(l.Append(items...)), answer[int]{0, 191})
			break
		}
		is(t, "P20.2: how many were added", n, len(items))
	}
	h.tells(t, c, l)
}

// TestCrashesOfLargerFiles has the power go at each act of Append and Open with larger files, and any bytes stay.
func TestCrashesOfLargerFiles(t *testing.T) {
	t.Parallel()
	c := chance(342)
	for _, n := range []int{10, 31, 63, 127} {
		x := appending{k: 32, has: c.items(n), more: []string{c.text(5000), c.text(700)}}
		for at := 1; at <= 12; at++ {
			for kind := 1; kind <= 5; kind++ {
				for range 3 {
					d := x.met(t, api.Fate{At: at, Kind: kind, Keep: c.keep()})
					left := d.After(c.keep())
					oneOfTwo(t, "P0.2", reopened(t, "P0.2", x.k, left), x.ahead(at), x.behind(at))
					e := diskOf(t, great, left)
					e.Lay(api.Fate{At: 1 + c.below(6), Kind: 1 + c.below(5), Keep: c.keep()})
					ledger.Open(e, x.k)
					oneOfTwo(t, "P0.2: Open", reopened(t, "P0.2: Open", x.k, e.After(c.keep())), x.ahead(at), x.behind(at))
				}
			}
		}
	}
}

// step is a call by chance, or a fate, or another life.
func (p *pair) step(t *testing.T, c *chance, room, k int) {
	t.Helper()
	switch c.below(12) {
	case 0:
		p.lay(api.Fate{At: 1 + c.below(19), Kind: c.below(6), Keep: c.keep()})
	case 1:
		p.open(t, "P0.1", k)
	case 2:
		p.open(t, "P0.1", pick(c, 0, 33, k%32+1, k))
	case 3:
		p.close(t, "P0.1")
	case 4:
		left := p.d.After(c.keep())
		if d, _ := disk.Open(room, left); d != nil { // what stays may be more than the room
			fresh := pairOf(t, room, left)
			if fresh.open(t, "P0.2", k) == 0 {
				*p = *fresh
			}
		}
	case 5:
		items := c.items(c.below(4))
		at := c.below(len(items) + 1)
		p.append(t, "P0.1", slices.Insert(items, at, overlong())...)
	default:
		p.append(t, "P0.1", c.items(c.below(4))...)
	}
}

// TestCallsByChance makes calls in any order, with fates, lives and wrong calls among them, against the model.
func TestCallsByChance(t *testing.T) {
	t.Parallel()
	c := chance(343)
	for range 250 {
		k := pick(&c, 1, 2, 3, 16, 31, 32)
		room := great
		if c.below(4) == 0 {
			room = c.below(4000)
		}
		p := pairOf(t, room, nil)
		p.open(t, "P0.1", k)
		for range 30 {
			p.step(t, &c, room, k)
		}
	}
}

// TestListByChance makes calls over a disk with room and without a fate: each answer is that of the list.
func TestListByChance(t *testing.T) {
	t.Parallel()
	c := chance(344)
	for range 60 {
		k := 1 + c.below(32)
		l, d := made(t, k)
		m := &model{k: k, d: d}
		for range 60 {
			switch c.below(8) {
			case 0:
				is(t, "P0.1: Close", l.Close(), 0)
				tellAlike(t, "P0.1: closed", l, &model{closed: true})
				l = must(t, "P0.1", d, k)
			case 1:
				l = must(t, "P0.1", d, k)
			default:
				items := c.items(c.below(3))
				is(t, "P0.1: Append", answered(l.Append(items...)), answer[int]{len(items), 0})
				m.items = append(m.items, items...)
			}
			n, at := uint64(c.below(len(m.items)+2)), uint64(c.below(len(m.items)+2))
			set := c.set(len(m.items)+1, 6)
			is(t, "P0.1: Size", answered(l.Size()), answered(m.size()))
			is(t, "P0.1: Root", answered(l.Root(n)), answered(m.root(n)))
			is(t, "P0.1: Get", answered(l.Get(at)), answered(m.get(at)))
			is(t, "P0.1: ProvePath", answered(l.ProvePath(n, at)), answered(m.path(n, at)))
			is(t, "P0.1: ProveBatch", answered(l.ProveBatch(n, set...)), answered(m.batch(n, set...)))
			is(t, "P0.1: ProveAncestry", answered(l.ProveAncestry(at, n)), answered(m.kin(at, n)))
		}
		tellAlike(t, "P0.1", l, m)
		accepts(t, &c, "P0.4", l, k, m.items)
	}
}
