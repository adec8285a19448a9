package files_test

import (
	"strings"
	"testing"

	"massif/api"
	"massif/disk"
)

// TestListOfEveryStrength adds items one by one: every byte of the files, every act and all that is told, by the store and by one that is opened anew.
func TestListOfEveryStrength(t *testing.T) {
	c := chance(201)
	for k := 1; k <= 32; k++ {
		p := begun(t, k, archive{})
		has := archive{}
		for n := range 18 {
			item, nodes := c.item(), c.digests(k, newNodes(n))
			is(t, "P19.2: Add", p.add(t, "P19.2", item, nodes), api.OK)
			has = has.with(item, nodes)
			is(t, "P19.2: Acts", p.d.Acts(), 3+6*(n+1))
			tells(t, "P19.2", p.d, has.laid(k))
			is(t, "P19.2: how many choices there are behind Add", choicesOf(p.d), 0)
			if got := contents(t, "P19.2", p.s); !got.equal(has) {
				t.Fatalf("P19.2: the store has %v, want %v", got, has)
			}
			if got := reopened(t, "P19.2", k, p.d.Files()); !got.equal(has) {
				t.Fatalf("P19.2: a store opened over the files has %v, want %v", got, has)
			}
		}
	}
}

// TestOpenedAnewInTurns opens the same disk between Adds, and goes on with the store that was opened last.
func TestOpenedAnewInTurns(t *testing.T) {
	c := chance(202)
	for k := 1; k <= 32; k += 5 {
		p := begun(t, k, archive{})
		for n := range 40 {
			is(t, "P19.2: Add", p.add(t, "P19.2", c.item(), c.digests(k, newNodes(n))), api.OK)
			for range c.below(3) {
				acts, was := p.d.Acts(), filesOf(p.d.Files())
				is(t, "P19.2: Open", p.open(t, "P19.2", k), api.OK)
				is(t, "P19.2: Acts of Open", p.d.Acts()-acts, 3)
				tells(t, "P19.2: Open of what a store has made cuts nothing", p.d, was)
			}
		}
	}
}

// TestManyItems has as many as a test has time for, one by one and opened anew.
func TestManyItems(t *testing.T) {
	c := chance(203)
	d := disk.New(great)
	s := must(t, "P19.2", d, 32)
	has := archive{}
	for n := range 3000 {
		item, nodes := c.text(c.below(30)), c.digests(32, newNodes(n))
		is(t, "P19.2: Add", s.Add(item, nodes), api.OK)
		has.items, has.nodes = append(has.items, item), append(has.nodes, nodes...)
	}
	tells(t, "P19.2", d, has.laid(32))
	is(t, "P19.2: Acts", d.Acts(), 3+6*3000)
	if got := contents(t, "P19.2", s); !got.equal(has) {
		t.Errorf("P19.2: the store of 3000 items has others")
	}
	if got := opened(t, "P19.2", 32, d); !got.equal(has) {
		t.Errorf("P19.2: the store opened anew has others")
	}
	tells(t, "P19.2: behind Open", d, has.laid(32))
}

// wrong is an Add that is refused.
type wrong struct {
	item  string
	nodes []string
	e     api.Errno
}

// wrongs are Adds that a store of n items at strength k refuses, by the first of their errors.
func wrongs(k, n int) []wrong {
	c := chance(204)
	right := c.digests(k, newNodes(n))
	over := strings.Repeat("i", maxItem+1)
	list := []wrong{
		{over, right, 100}, {over, nil, 100}, {over + over, right, 100},
		{"a", nil, 192}, {"a", []string{}, 192}, {"", right[1:], 192}, {"a", append(c.digests(k, 1), right...), 192}, {"a", make([]string, len(right)), 192},
		{strings.Repeat("i", maxItem), nil, 192},
	}
	for at := range right {
		for _, bad := range []string{right[at][1:], right[at] + "x", right[at] + "\x00", "", right[at] + right[at], strings.Repeat("d", 33), strings.Repeat("d", 40)} {
			nodes := append([]string{}, right...)
			nodes[at] = bad
			list = append(list, wrong{"a", nodes, 192}, wrong{over, nodes, 100})
		}
	}
	return list
}

func TestRefusedAdds(t *testing.T) {
	c := chance(205)
	for _, k := range []int{1, 2, 31, 32} {
		for _, n := range []int{0, 1, 2, 3, 7, 8} {
			p := begun(t, k, archiveOf(&c, k, n))
			was := filesOf(p.d.Files())
			for _, x := range wrongs(k, n) {
				p.lay(api.Fate{At: 1, Kind: 1 + c.below(5)}) // it waits on: a refused Add makes no act
				is(t, "R1: a wrong Add", p.add(t, "P19.1", x.item, x.nodes), x.e)
				is(t, "P19.1: Lame behind a refused Add", p.s.Lame(), false)
			}
			is(t, "P19.1: Acts", p.d.Acts(), 3)
			tells(t, "P19.1: refused Adds", p.d, was)
			p.lay(api.Fate{})
			is(t, "P19.1: Add behind refused ones", p.add(t, "P19.1", "a", c.digests(k, newNodes(n))), api.OK)
		}
	}
}

// TestLameAheadOfOtherErrors has wrong Adds to a store that is lame.
func TestLameAheadOfOtherErrors(t *testing.T) {
	c := chance(206)
	for _, kind := range []int{1, 2, 3, 4, 5} {
		for at := 1; at <= 6; at++ {
			p := begun(t, 2, archiveOf(&c, 2, 3))
			p.lay(api.Fate{At: at, Kind: kind, Keep: c.keep()})
			p.add(t, "P19.1", "a", c.digests(2, newNodes(3)))
			acts := p.d.Acts()
			for _, x := range append(wrongs(2, 3), wrong{"a", c.digests(2, newNodes(3)), 0}) {
				is(t, "R1: Add to a lame store", p.add(t, "P19.1", x.item, x.nodes), 191)
			}
			is(t, "R9: Acts of a lame store's Add", p.d.Acts(), acts)
			is(t, "R9: Lame", p.s.Lame(), true)
		}
	}
}

// TestItemsOfAllLengths adds items of no byte up to MaxItem.
func TestItemsOfAllLengths(t *testing.T) {
	c := chance(207)
	p := begun(t, 4, archive{})
	for n, length := range []int{0, 1, 0, 2, 55, 56, 57, 255, 256, 65535, 65536, maxItem - 1, maxItem, 0, maxItem} {
		item := c.text(length)
		is(t, "P19.2: Add", p.add(t, "P19.2", item, c.digests(4, newNodes(n))), api.OK)
		is(t, "P19.1: Add of one above MaxItem", p.add(t, "P19.1", strings.Repeat("i", maxItem+1), c.digests(4, newNodes(n+1))), 100)
		itemIs(t, "P19.2", p.s, uint64(n), item, 0)
	}
	is(t, "P19.2: Open", p.open(t, "P19.2", 4), api.OK)
}

// TestWithoutPower has every call of a store whose disk's power is out.
func TestWithoutPower(t *testing.T) {
	c := chance(208)
	for _, n := range []int{0, 1, 2, 5} {
		p := begun(t, 3, archiveOf(&c, 3, n))
		p.lay(api.Fate{At: 1, Kind: 4})
		p.both(func(d *disk.Disk) { d.Sync("other") })
		p.alike(t, "P19.1: no power") // ErrIndex stands ahead of ErrDown
		for _, x := range wrongs(3, n) {
			is(t, "R1: a wrong Add without power", p.add(t, "P19.1: no power", x.item, x.nodes), x.e)
		}
		is(t, "P19.1: Lame", p.s.Lame(), false)
		is(t, "P19.1: Add without power", p.add(t, "P19.1: no power", "a", c.digests(3, newNodes(n))), 170)
		is(t, "P19.1: Lame", p.s.Lame(), true)
		is(t, "P19.1: Add without power, lame", p.add(t, "P19.1: no power", "a", c.digests(3, newNodes(n))), 191)
		is(t, "P19.1: Open without power", p.open(t, "P19.1: no power", 3), 170)
	}
}

// TestDiskWithoutRoom has the disk's own ErrRoom meet the writes of the payload, of the nodes and of the marker.
func TestDiskWithoutRoom(t *testing.T) {
	c := chance(209)
	const k = 2
	for _, n := range []int{0, 1, 2, 3} {
		a := archiveOf(&c, k, n)
		item, nodes := "item", c.digests(k, newNodes(n))
		f := a.laid(k)
		used := len(f.items) + len(f.nodes) + len(f.marks)
		payload, rows := len(item)+8, nodeLen*newNodes(n)
		for _, x := range []struct{ free, acts int }{
			{0, 0}, {payload - 1, 0}, {payload, 1}, {payload + rows - 1, 1}, {payload + rows, 4}, {payload + rows + 63, 4}, {payload + rows + 64, 6},
		} {
			p := pairOf(t, used+x.free, f.list())
			is(t, "P19.1: Open", p.open(t, "P19.1: room", k), api.OK)
			acts := p.d.Acts()
			want := api.ErrRoom
			if x.acts == 6 {
				want = api.OK
			}
			is(t, "P19.1: Add", p.add(t, "P19.1: room", item, nodes), want)
			is(t, "P19.1: Acts of Add", p.d.Acts()-acts, x.acts)
			is(t, "R9: Lame", p.s.Lame(), x.acts < 6)
			got := opened(t, "P19.4: room", k, p.d)
			if x.acts == 6 && !got.equal(a.with(item, nodes)) || x.acts < 6 && !got.equal(a) {
				t.Errorf("P19.4: room for %d bytes: the store opened anew has %v", x.free, got)
			}
		}
	}
}

// TestCallsByChance makes calls in any order, with fates, lives and wrong calls among them, against the model.
func TestCallsByChance(t *testing.T) {
	c := chance(210)
	for range 600 {
		k := pick(&c, 1, 2, 3, 16, 31, 32)
		room := great
		if c.below(4) == 0 {
			room = c.below(3000)
		}
		p := pairOf(t, room, nil)
		p.open(t, "P19.1", k)
		for range 40 {
			p.step(t, &c, room, k)
		}
	}
}

// step is a call by chance, or a fate, or another life.
func (p *pair) step(t *testing.T, c *chance, room, k int) {
	t.Helper()
	size := len(p.m.has.items)
	switch c.below(12) {
	case 0:
		p.lay(api.Fate{At: 1 + c.below(9), Kind: c.below(6), Keep: c.keep()})
	case 1:
		p.open(t, "P19.1", k)
	case 2:
		p.open(t, "P19.1", pick(c, 0, 33, k%32+1, k))
	case 3:
		p.add(t, "P19.1", c.item(), c.digests(pick(c, k, k, k-1, k+1), c.below(4)))
	case 4:
		left := p.d.After(c.keep())
		if d, _ := disk.Open(room, left); d != nil { // what stays may be more than the room
			fresh := pairOf(t, room, left)
			if fresh.open(t, "P19.3", k) == api.OK {
				*p = *fresh
			}
		}
	default:
		p.add(t, "P19.1", c.item(), c.digests(k, newNodes(size)))
	}
}
