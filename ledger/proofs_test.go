package ledger_test

import (
	"slices"
	"strings"
	"testing"

	"massif/api"
	"massif/ledger"
	"massif/light"
	"massif/record"
)

// TestRoots has Size and Root of every n, and of what is no n, as the ledger grows.
func TestRoots(t *testing.T) {
	c := chance(321)
	for k := 1; k <= 32; k += 3 {
		l, _ := made(t, k)
		var items []string
		for n := range 33 {
			is(t, "P20.3: Size", answered(l.Size()), answer[uint64]{uint64(n), 0})
			for m := range n + 1 {
				is(t, "P20.3: Root", answered(l.Root(uint64(m))), answer[api.Root]{rootOf(k, items[:m]), 0})
			}
			for _, m := range numbersAround(n)[n+1:] {
				is(t, "P20.3: Root above the size", answered(l.Root(m)), answer[api.Root]{api.Root{}, 30})
			}
			more := c.items(1)
			is(t, "P20.2: Append", answered(l.Append(more...)), answer[int]{1, 0})
			items = append(items, more...)
		}
	}
}

// TestGets has Get of every item, at the size and above it.
func TestGets(t *testing.T) {
	c := chance(322)
	items := c.items(40)
	l, d := made(t, 16, items...)
	for _, x := range []*ledger.Ledger{l, must(t, "P20.1", d, 16)} {
		for i, item := range items {
			is(t, "P20.4: Get", answered(x.Get(uint64(i))), answer[string]{item, 0})
		}
		for _, i := range numbersAround(len(items))[len(items):] {
			is(t, "P20.4: Get of none", answered(x.Get(i)), answer[string]{"", 31})
		}
	}
	empty, _ := made(t, 16)
	for _, i := range numbersAround(0) {
		is(t, "P20.4: Get of an empty ledger", answered(empty.Get(i)), answer[string]{"", 31})
	}
}

// tellsBehind holds what a ledger tells behind somebody's acts on its disk: Get as asked, Root and proofs as before.
func tellsBehind(t *testing.T, what string, l *ledger.Ledger, m *model, gets func(i int) answer[string]) {
	t.Helper()
	for i := range m.items {
		is(t, what+": Get", answered(l.Get(uint64(i))), gets(i))
	}
	is(t, what+": Get of none", answered(l.Get(uint64(len(m.items)))), answer[string]{"", 31})
	is(t, what+": Size", answered(l.Size()), answered(m.size()))
	for n := range uint64(len(m.items)) + 2 {
		is(t, what+": Root", answered(l.Root(n)), answered(m.root(n)))
		is(t, what+": ProvePath", answered(l.ProvePath(n, 0)), answered(m.path(n, 0)))
		is(t, what+": ProveBatch", answered(l.ProveBatch(n, 0, 2)), answered(m.batch(n, 0, 2)))
		is(t, what+": ProveAncestry", answered(l.ProveAncestry(1, n)), answered(m.kin(1, n)))
	}
}

// TestGetOfATurnedByte turns each byte of the items, and cuts them there.
func TestGetOfATurnedByte(t *testing.T) {
	items := []string{"a", "", "third item", "d"}
	from := 0
	for i, item := range items {
		for at := from; at < from+len(item)+8; at++ {
			p := begun(t, 2, items...)
			all, _ := p.d.Read("items", 0, p.d.Size("items"))
			p.d.Write("items", at, turned(all, at)[at:at+1])
			tellsBehind(t, "P20.4: a turned byte", p.l, p.m, func(j int) answer[string] {
				if j == i {
					return answer[string]{"", 190}
				}
				return answer[string]{items[j], 0}
			})
			p.d.Cut("items", at)
			tellsBehind(t, "P20.4: the bytes are not there", p.l, p.m, func(j int) answer[string] {
				if j >= i {
					return answer[string]{"", 190}
				}
				return answer[string]{items[j], 0}
			})
		}
		from += len(item) + 8
	}
}

// TestNodesAndMarksOnTheDisk are not looked at by what is told: they may be anything, once the ledger is open.
func TestNodesAndMarksOnTheDisk(t *testing.T) {
	items := counted(4)
	p := begun(t, 2, items...)
	for _, name := range []string{"nodes", "marks"} {
		p.d.Write(name, 0, zeros(p.d.Size(name)))
		p.d.Cut(name, 10)
		tellsBehind(t, "P20.5: they look at no disk", p.l, p.m, func(j int) answer[string] { return answer[string]{items[j], 0} })
	}
}

// otherOf is a text of as many bytes, with the same leaf at strength 1.
func otherOf(item string) string {
	c := chance(323)
	for {
		row := make([]byte, len(item))
		for i := range row {
			row[i] = byte(c.next())
		}
		if s := string(row); s != item && leaf(1, s) == leaf(1, item) {
			return s
		}
	}
}

// TestGetOfAnotherItem lays right records of other items where an item's stood.
func TestGetOfAnotherItem(t *testing.T) {
	items := []string{"first", "second", "third"}
	for _, k := range []int{1, 2, 32} {
		for _, other := range []string{"SECOND", "second"[1:] + "s", zeros(6), otherOf("second")} {
			l, d := made(t, k, items...)
			d.Write("items", len("first")+8, record.Payload(other))
			is(t, "P20.4: the disk has another item", answered(l.Get(1)), answer[string]{"", 190})
			is(t, "P20.4: the item ahead", answered(l.Get(0)), answer[string]{"first", 0})
			is(t, "P20.4: the item behind", answered(l.Get(2)), answer[string]{"third", 0})
			again, e := ledger.Open(d, k)
			is(t, "P20.1: Open of these files", e, 190)
			is(t, "P20.1: Open of these files", again == nil, true)
			d.Write("items", len("first")+8, record.Payload("second"))
			is(t, "P20.4: the disk has it again", answered(l.Get(1)), answer[string]{"second", 0})
		}
	}
}

// sets are all lists of numbers below n, in all orders, with some twice, of up to three.
func sets(n int) [][]uint64 {
	list := [][]uint64{nil, {}}
	for a := range uint64(n) {
		list = append(list, []uint64{a})
		for b := range uint64(n) {
			list = append(list, []uint64{a, b})
			for c := range uint64(n) {
				list = append(list, []uint64{a, b, c})
			}
		}
	}
	return list
}

// TestEveryProof has each kind of proof at all numbers of small ledgers, and some numbers above.
func TestEveryProof(t *testing.T) {
	for _, k := range []int{1, 8, 32} {
		for _, size := range []int{0, 1, 2, 3, 5} {
			items := counted(size)
			l, d := made(t, k, items...)
			acts := d.Acts()
			m := &model{k: k, d: d, items: items}
			numbers := numbersAround(size)
			for _, n := range numbers {
				for _, i := range numbers {
					is(t, "P20.5: ProvePath", answered(l.ProvePath(n, i)), answered(m.path(n, i)))
					is(t, "P20.5: ProveAncestry", answered(l.ProveAncestry(i, n)), answered(m.kin(i, n)))
					is(t, "P20.5: ProveBatch", answered(l.ProveBatch(n, i)), answered(m.batch(n, i)))
					is(t, "P20.5: ProveBatch", answered(l.ProveBatch(n, 0, i)), answered(m.batch(n, 0, i)))
					is(t, "P20.5: ProveBatch", answered(l.ProveBatch(n, i, 0)), answered(m.batch(n, i, 0)))
				}
				for _, set := range sets(size + 1) {
					is(t, "P20.5: ProveBatch", answered(l.ProveBatch(n, set...)), answered(m.batch(n, set...)))
				}
			}
			is(t, "P20.5: Acts", d.Acts(), acts)
		}
	}
}

// TestOrderOfErrors has several errors apply at once.
func TestOrderOfErrors(t *testing.T) {
	l, _ := made(t, 8, "a", "b", "c", "d")
	for i, x := range []struct {
		got  answer[string]
		want api.Errno
	}{
		{answered(l.ProvePath(5, 5)), 30}, {answered(l.ProvePath(greatest, greatest)), 30}, {answered(l.ProvePath(4, 4)), 31}, {answered(l.ProvePath(3, 3)), 31}, {answered(l.ProvePath(0, 0)), 31}, {answered(l.ProvePath(2, greatest)), 31},
		{answered(l.ProveBatch(5)), 30}, {answered(l.ProveBatch(5, 2, 1)), 30}, {answered(l.ProveBatch(5, 9)), 30}, {answered(l.ProveBatch(greatest, 9)), 30},
		{answered(l.ProveBatch(4)), 40}, {answered(l.ProveBatch(0)), 40}, {answered(l.ProveBatch(4, 3, 2)), 40}, {answered(l.ProveBatch(4, 9, 8)), 40}, {answered(l.ProveBatch(4, 9, 9)), 40}, {answered(l.ProveBatch(4, 0, 0)), 40}, {answered(l.ProveBatch(4, 0, 9, 1)), 40}, {answered(l.ProveBatch(0, 1, 0)), 40}, {answered(l.ProveBatch(4, 0, 1, 1, 2)), 40}, {answered(l.ProveBatch(4, greatest, 0)), 40},
		{answered(l.ProveBatch(4, 4)), 31}, {answered(l.ProveBatch(3, 0, 3)), 31}, {answered(l.ProveBatch(0, 0)), 31}, {answered(l.ProveBatch(4, 0, greatest)), 31},
		{answered(l.ProveAncestry(5, 5)), 30}, {answered(l.ProveAncestry(6, 5)), 30}, {answered(l.ProveAncestry(greatest, greatest)), 30}, {answered(l.ProveAncestry(0, 5)), 30},
		{answered(l.ProveAncestry(1, 0)), 41}, {answered(l.ProveAncestry(5, 4)), 41}, {answered(l.ProveAncestry(greatest, 4)), 41},
	} {
		if x.got != (answer[string]{"", x.want}) {
			t.Errorf("P20.5: row %d: %v, want %d", i, x.got, x.want)
		}
	}
}

// TestAcceptedEach has every path, many batches and every kin accepted against the ledger's own commitments, with its own items, and not with others.
func TestAcceptedEach(t *testing.T) {
	c := chance(324)
	for _, k := range []int{8, 32} {
		items := c.items(17)
		for i := range items {
			items[i] += strings.Repeat("i", i) // no two alike
		}
		l, _ := made(t, k, items...)
		for n := range uint64(18) {
			root, _ := l.Root(n)
			for i := range n {
				proof, _ := l.ProvePath(n, i)
				is(t, "P0.4: a path", light.Claims(k, root, claimsOf(items, i), proof), 0)
				other := []api.Claim{{Index: i, Value: "another"}}
				is(t, "P0.4: a path with another item", light.Claims(k, root, other, proof) == 0, false)
			}
			for m := range n + 1 {
				old, _ := l.Root(m)
				proof, _ := l.ProveAncestry(m, n)
				is(t, "P0.4: a kin", light.Kin(k, old, root, proof), 0)
			}
			for range 20 * min(n, 1) {
				set := c.set(int(n), 17)
				proof, _ := l.ProveBatch(n, set...)
				is(t, "P0.4: a batch", light.Claims(k, root, claimsOf(items, set...), proof), 0)
			}
		}
	}
}

// TestProofsAreOfTheTime holds what was told at each size against what is told of it later: by the same ledger, one that is lame, and one opened anew.
func TestProofsAreOfTheTime(t *testing.T) {
	c := chance(325)
	const k, size = 16, 30
	items := c.items(size)
	l, d := made(t, k)
	tell := func(l *ledger.Ledger, n int) []answer[string] {
		root, e := l.Root(uint64(n))
		list := []answer[string]{{root.Digest, e}}
		for i := range uint64(n) {
			list = append(list, answered(l.ProvePath(uint64(n), i)), answered(l.ProveBatch(uint64(n), i)), answered(l.ProveBatch(uint64(n), 0, i+1)), answered(l.ProveAncestry(i, uint64(n))))
		}
		return list
	}
	var then [][]answer[string]
	for n, item := range items {
		then = append(then, tell(l, n))
		is(t, "P20.2: Append", answered(l.Append(item)), answer[int]{1, 0})
	}
	asThen := func(what string, l *ledger.Ledger) {
		t.Helper()
		for n := range items {
			if got := tell(l, n); !slices.Equal(got, then[n]) {
				t.Errorf("P20.5: %s: of the first %d other things are told than when there were so many", what, n)
			}
		}
	}
	asThen("later", l)
	d.Lay(api.Fate{At: 6, Kind: 3})
	is(t, "P20.2: Append", answered(l.Append("x")), answer[int]{0, 171})
	asThen("lame", l)
	asThen("opened anew", must(t, "P20.1", d, k))
}
