package ledger_test

import (
	"slices"
	"strings"
	"testing"

	"massif/api"
	"massif/disk"
)

// TestAppendOfSome appends lists of all lengths, one behind the other.
func TestAppendOfSome(t *testing.T) {
	c := chance(311)
	for _, k := range []int{1, 3, 16, 32} {
		p := begun(t, k)
		acts := p.d.Acts()
		for _, n := range []int{0, 1, 2, 0, 7, 1, 1, 13, 0} {
			is(t, "P20.2: Append", p.append(t, "P20.2", c.items(n)...), 0)
		}
		is(t, "P20.2: Size", answered(p.l.Size()), answer[uint64]{25, 0})
		is(t, "P20.2: Acts", p.d.Acts()-acts, 6*25)
		accepts(t, &c, "P0.4", p.l, k, p.m.items)
		items := p.m.items
		is(t, "P20.1: Open", p.open(t, "P20.1", k), 0)
		same(t, "P20.1", contents(t, "P20.1", p.l), items)
	}
}

// TestAppendAtOnceOrOneByOne leaves the same.
func TestAppendAtOnceOrOneByOne(t *testing.T) {
	c := chance(312)
	items := c.items(30)
	_, once := made(t, 32, items...)
	l, d := made(t, 32)
	for _, item := range items {
		is(t, "P20.2: Append", answered(l.Append(item)), answer[int]{1, 0})
	}
	disksAlike(t, "P20.2: one by one", d, once)
}

// TestItemsOfAllLengths has items of no byte up to MaxItem.
func TestItemsOfAllLengths(t *testing.T) {
	c := chance(313)
	var items []string
	for _, length := range []int{0, 1, 0, 2, 55, 56, 63, 64, 65535, 65536, maxItem - 1, maxItem, 0, maxItem} {
		items = append(items, c.text(length))
	}
	l, d := made(t, 4, items...)
	for i, item := range items {
		is(t, "P20.4: Get", answered(l.Get(uint64(i))), answer[string]{item, 0})
	}
	is(t, "P20.3: Root", answered(l.Root(14)), answer[api.Root]{rootOf(4, items), 0})
	accepts(t, &c, "P0.4", l, 4, items)
	same(t, "P20.1", opened(t, "P20.1", 4, d), items)
}

// TestItemsThatAreTooLong has one of them stand first, in the middle and last, in a list alone and twice.
func TestItemsThatAreTooLong(t *testing.T) {
	long := overlong()
	full := long[1:]
	for _, x := range []struct {
		items []string
		n     int
	}{
		{[]string{long}, 0},
		{[]string{long + "x"}, 0},
		{[]string{strings.Repeat(long, 3)}, 0},
		{[]string{long, "a", "b"}, 0},
		{[]string{"a", long, "b"}, 1},
		{[]string{"a", "b", long}, 2},
		{[]string{"", "a", long, "b", long}, 2},
		{[]string{full, long, full}, 1},
		{[]string{full, full, long}, 2},
	} {
		for _, has := range [][]string{nil, {"x"}, {"x", "y", "z"}} {
			l, d := made(t, 8, has...)
			want := slices.Concat(has, x.items[:x.n])
			is(t, "P20.2: Append", answered(l.Append(x.items...)), answer[int]{x.n, 100})
			is(t, "P20.2: Acts", d.Acts(), 3+6*len(want))
			same(t, "P20.2", contents(t, "P20.2", l), want)
			is(t, "P20.3: Root", answered(l.Root(uint64(len(want)))), answer[api.Root]{rootOf(8, want), 0})
			is(t, "P20.2: Append behind it", answered(l.Append("c")), answer[int]{1, 0})
			is(t, "P20.3: Root", answered(l.Root(uint64(len(want)+1))), answer[api.Root]{rootOf(8, append(want, "c")), 0})
		}
	}
}

// TestLameAppend has every kind of Append to a ledger that is lame.
func TestLameAppend(t *testing.T) {
	long := overlong()
	for kind := 1; kind <= 5; kind++ {
		for at := 1; at <= 6; at++ {
			p := begun(t, 2, "a", "b", "c")
			p.lay(api.Fate{At: at, Kind: kind})
			is(t, "P20.7: Append", p.append(t, "P20.7", "d", "e"), fateErrors()[kind])
			acts := p.d.Acts()
			for _, x := range []struct {
				items []string
				e     api.Errno
			}{
				{nil, 0}, {[]string{}, 0}, {[]string{""}, 191}, {[]string{"d"}, 191}, {[]string{long}, 100}, {[]string{long, "d"}, 100}, {[]string{"d", long}, 191}, {[]string{long[1:]}, 191},
			} {
				is(t, "P20.7: Append to a lame ledger", answered(p.l.Append(x.items...)), answer[int]{0, x.e})
			}
			is(t, "P20.7: Acts of a lame ledger's Append", p.d.Acts(), acts)
			tellAlike(t, "P20.7: lame", p.l, p.m)
		}
	}
}

// TestDiskWithoutRoom has the disk's own ErrRoom meet the writes of the payload, of the nodes and of the marker of the second of two items.
func TestDiskWithoutRoom(t *testing.T) {
	for _, n := range []int{0, 1, 2, 3} {
		has := counted(n)
		list := rightly(t, 8, append(has, "first"))
		used := 0
		for _, f := range list {
			used += len(f.Data)
		}
		payload, rows := len("second")+8, nodeLen*(nodesOf(n+2)-nodesOf(n+1))
		for _, x := range []struct{ free, acts int }{
			{0, 0}, {payload - 1, 0}, {payload, 1}, {payload + rows - 1, 1}, {payload + rows, 4}, {payload + rows + 63, 4}, {payload + rows + 64, 6},
		} {
			p := pairOf(t, used+x.free, rightly(t, 8, has))
			is(t, "P20.1: Open", p.open(t, "P20.1", 8), 0)
			acts := p.d.Acts()
			want := answer[int]{1, 172}
			if x.acts == 6 {
				want = answer[int]{2, 0}
			}
			p.m.append("first", "second")
			is(t, "P20.2: Append", answered(p.l.Append("first", "second")), want)
			p.alike(t, "P20.2: no room")
			is(t, "P20.2: Acts of Append", p.d.Acts()-acts, 6+x.acts)
			is(t, "P20.7: a third Append", answered(p.l.Append()), answer[int]{0, 0})
			if x.acts < 6 {
				is(t, "P20.7: a third Append", answered(p.l.Append("third")), answer[int]{0, 191})
			}
			same(t, "P0.3: no room", opened(t, "P0.3: no room", 8, p.d), append(has, "first", "second")[:n+want.told])
		}
	}
}

// TestMostItems appends up to MaxItems, and beyond.
func TestMostItems(t *testing.T) {
	t.Parallel()
	const k = 3
	items := make([]string, maxItems+2)
	for i := range items {
		items[i] = strings.Repeat("i", i%3) + string(rune('a'+i%7))
	}
	l, d := made(t, k, items[:maxItems-1]...)
	is(t, "P20.2: Append of three, of which one may be", answered(l.Append(items[maxItems-1:]...)), answer[int]{1, 101})
	is(t, "P20.3: Size", answered(l.Size()), answer[uint64]{maxItems, 0})
	acts := d.Acts()
	is(t, "P20.2: Append of one more", answered(l.Append("")), answer[int]{0, 101})
	is(t, "R1: Append of one more that is too long", answered(l.Append(overlong())), answer[int]{0, 100})
	is(t, "P20.2: Append of nothing", answered(l.Append()), answer[int]{0, 0})
	is(t, "P20.2: Acts of refused Appends", d.Acts(), acts)
	is(t, "P20.2: Acts", acts, 3+6*maxItems)
	items = items[:maxItems]
	root := rootOf(k, items)
	is(t, "P20.3: Root", answered(l.Root(maxItems)), answer[api.Root]{root, 0})
	is(t, "P20.3: Root of one fewer", answered(l.Root(maxItems-1)), answer[api.Root]{rootOf(k, items[:maxItems-1]), 0})
	is(t, "P20.3: Root above", answered(l.Root(maxItems+1)), answer[api.Root]{api.Root{}, 30})
	is(t, "P20.4: Get", answered(l.Get(maxItems-1)), answer[string]{items[maxItems-1], 0})
	is(t, "P20.4: Get above", answered(l.Get(maxItems)), answer[string]{"", 31})
	again := must(t, "P20.1: MaxItems", d, k)
	is(t, "P20.1: Root", answered(again.Root(maxItems)), answer[api.Root]{root, 0})
	is(t, "P20.1: Append to the one opened anew", answered(again.Append("")), answer[int]{0, 101})
	m := &model{k: k, items: items}
	set := []uint64{0, 1, 7, 30000, maxItems - 1}
	is(t, "P20.5: ProvePath", answered(again.ProvePath(maxItems, 30000)), answered(m.path(maxItems, 30000)))
	is(t, "P20.5: ProveBatch", answered(again.ProveBatch(maxItems, set...)), answered(m.batch(maxItems, set...)))
	is(t, "P20.5: ProveAncestry", answered(again.ProveAncestry(30001, maxItems)), answered(m.kin(30001, maxItems)))
}

// TestLongestItemsFile fills the payloads' file up to MaxFile: what it would not hold is refused, and nothing has changed.
func TestLongestItemsFile(t *testing.T) {
	t.Parallel()
	const k = 2
	d := disk.New(great)
	l := must(t, "P20.2: MaxFile", d, k)
	item := strings.Repeat("0123456789abcdef", maxItem/16)
	many := slices.Repeat([]string{item}, 255)
	is(t, "P20.2: Append of many", answered(l.Append(many...)), answer[int]{255, 0})
	left := longest - d.Size("items") - 8
	is(t, "P20.2: how long an item has room", left, maxItem-2048)
	acts, root := d.Acts(), answered(l.Root(255))
	isFull := func(items ...string) {
		t.Helper()
		n, _ := l.Size()
		is(t, "P20.2: Append of what there is no room for", answered(l.Append(items...)), answer[int]{0, 172})
		is(t, "P20.2: Acts", d.Acts(), acts)
		is(t, "P20.3: Size", answered(l.Size()), answer[uint64]{n, 0})
		is(t, "P20.3: Root", answered(l.Root(255)), root)
		is(t, "P20.3: Root of one more", answered(l.Root(n+1)), answer[api.Root]{api.Root{}, 30})
		is(t, "P20.4: Get of one more", answered(l.Get(n)), answer[string]{"", 31})
		is(t, "P20.5: ProvePath of one more", answered(l.ProvePath(n+1, 0)), answer[string]{"", 30})
	}
	isFull(item[:left+1])
	isFull(item, "a")
	isFull(item[:left+1], overlong())
	is(t, "R1: Append of one that is too long", answered(l.Append(overlong())), answer[int]{0, 100})
	is(t, "P20.7: a ledger that is not lame", answered(l.Append("a", item[:left-9+1])), answer[int]{1, 172})
	acts += 6
	is(t, "P20.2: Append of what there is room for", answered(l.Append(item[:left-9], "")), answer[int]{1, 172})
	acts += 6
	is(t, "P20.2: the items' file", d.Size("items"), longest)
	isFull("")
	items := append(many, "a", item[:left-9])
	is(t, "P20.3: Root", answered(l.Root(257)), answer[api.Root]{rootOf(k, items), 0})
	again := must(t, "P20.1: MaxFile", d, k)
	is(t, "P20.1: Root", answered(again.Root(257)), answer[api.Root]{rootOf(k, items), 0})
	is(t, "P20.1: Append", answered(again.Append("")), answer[int]{0, 172})
}
