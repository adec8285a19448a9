package ledger_test

import (
	"fmt"
	"strings"
	"sync"
	"testing"

	"massif/api"
	"massif/disk"
	"massif/ledger"
	"massif/light"
)

// together has n goroutines do something at once, and waits for all of them.
func together(n int, do func(who int)) {
	var all sync.WaitGroup
	for who := range n {
		all.Add(1)
		go func() {
			defer all.Done()
			do(who)
		}()
	}
	all.Wait()
}

// TestAppendsAtOnce has several goroutines append: the items of one call stand side by side, in their order, and those of one goroutine one call behind the other.
func TestAppendsAtOnce(t *testing.T) {
	const many, calls, each = 6, 25, 4
	l, d := made(t, 16)
	together(many, func(who int) {
		for call := range calls {
			var items []string
			for at := range each {
				items = append(items, fmt.Sprint(who, " ", call, " ", at))
			}
			if n, e := l.Append(items...); n != each || e != 0 {
				t.Errorf("P20.8: Append: %d, %d", n, e)
			}
		}
	})
	items := contents(t, "P20.8", l)
	is(t, "P20.8: how many items there are", len(items), many*calls*each)
	next := map[string]int{}
	for at := 0; at < len(items); at += each {
		who, _, _ := strings.Cut(items[at], " ")
		for i := range each {
			is(t, "P20.8: the items of one call", items[at+i], fmt.Sprint(who, " ", next[who], " ", i))
		}
		next[who]++
	}
	is(t, "P20.8: Root", answered(l.Root(uint64(len(items)))), answer[api.Root]{rootOf(16, items), 0})
	is(t, "P20.8: Acts", d.Acts(), 3+6*len(items))
	same(t, "P20.8", opened(t, "P20.8", 16, d), items)
}

// TestAskedWhileItGrows has goroutines ask while others append: what is told of a size is right whenever it is told.
func TestAskedWhileItGrows(t *testing.T) {
	const k, calls = 8, 60
	l, _ := made(t, k, "first")
	together(6, func(who int) {
		c := chance(350 + who)
		for range calls {
			if who < 2 {
				l.Append(c.items(c.below(3))...)
				continue
			}
			size, e := l.Size()
			is(t, "P20.8: Size", e, 0)
			asked(t, &c, l, k, size)
		}
	})
	accepts(t, new(chance), "P20.8", l, k, contents(t, "P20.8", l))
}

// asked asks a ledger for proofs of a size that it has told.
func asked(t *testing.T, c *chance, l *ledger.Ledger, k int, size uint64) {
	t.Helper()
	root, e := l.Root(size)
	is(t, "P20.8: Root", e, 0)
	i := uint64(c.below(int(size)))
	item, e := l.Get(i)
	is(t, "P20.8: Get", e, 0)
	claims := []api.Claim{{Index: i, Value: item}}
	proof, _ := l.ProvePath(size, i)
	is(t, "P20.8: a path is accepted", light.Claims(k, root, claims, proof), 0)
	proof, _ = l.ProveBatch(size, i)
	is(t, "P20.8: a batch is accepted", light.Claims(k, root, claims, proof), 0)
	old, _ := l.Root(i)
	proof, _ = l.ProveAncestry(i, size)
	is(t, "P20.8: a kin is accepted", light.Kin(k, old, root, proof), 0)
}

// TestFateMeetsOneOfSeveral has an act fail while several goroutines append: one of them is told, and all others that the ledger is lame.
func TestFateMeetsOneOfSeveral(t *testing.T) {
	for at := 1; at <= 60; at++ {
		l, d := made(t, 8)
		d.Lay(api.Fate{At: at, Kind: 1})
		var faults, added [5]int
		together(5, func(who int) {
			for range 3 {
				n, e := l.Append("x")
				added[who] += n
				switch e {
				case 171:
					faults[who]++
				case 0, 191:
				default:
					t.Errorf("P20.8: Append: %d", e)
				}
			}
		})
		sum := func(list [5]int) (all int) {
			for _, n := range list {
				all += n
			}
			return all
		}
		is(t, "P20.8: how many were told of the fault", sum(faults), 1)
		is(t, "P20.8: how many were added", sum(added), (at-1)/6)
		is(t, "P20.8: Size", answered(l.Size()), answer[uint64]{uint64(at-1) / 6, 0})
	}
}

// TestClosesAtOnce has several goroutines close and ask: one Close is OK, and behind it all is ErrClosed.
func TestClosesAtOnce(t *testing.T) {
	for range 50 {
		l, _ := made(t, 8, "a", "b")
		var closes [6]int
		together(6, func(who int) {
			for range 3 {
				_, e := l.ProveBatch(2, 0, 1)
				if e != 0 && e != 200 {
					t.Errorf("P20.8: ProveBatch: %d", e)
				}
				if l.Close() == 0 {
					closes[who]++
				}
				is(t, "P20.8: Size behind Close", answered(l.Size()), answer[uint64]{0, 200})
			}
		})
		all := 0
		for _, n := range closes {
			all += n
		}
		is(t, "P20.8: how many Closes were OK", all, 1)
	}
}

// TestTwoLedgersInTurns has ledgers over several disks, of several strengths, in turns.
func TestTwoLedgersInTurns(t *testing.T) {
	c := chance(351)
	strengths := []int{2, 2, 32}
	var pairs []*pair
	for _, k := range strengths {
		pairs = append(pairs, begun(t, k))
	}
	for range 120 {
		at := c.below(len(pairs))
		pairs[at].step(t, &c, great, strengths[at])
		for _, p := range pairs {
			p.alike(t, "R11: ledgers in turns")
		}
	}
}

// TestTwoLedgersOverOneDisk has them do anything to one another: no call panics, and each ends.
func TestTwoLedgersOverOneDisk(t *testing.T) {
	c := chance(352)
	for range 300 {
		k := pick(&c, 1, 2, 32)
		d := disk.New(pick(&c, 600, 3000, great))
		ledgers := []*ledger.Ledger{must(t, "P20.8", d, k), must(t, "P20.8", d, k)}
		for range 30 {
			l := pick(&c, ledgers...)
			switch c.below(6) {
			case 0:
				name := pick(&c, "items", "nodes", "marks")
				d.Write(name, c.below(d.Size(name)+1), c.text(c.below(100)))
			case 1:
				name := pick(&c, "items", "nodes", "marks")
				d.Cut(name, c.below(d.Size(name)+1))
			case 2:
				if other, e := ledger.Open(d, pick(&c, k, k, 1, 2, 3, 32)); e == 0 {
					ledgers = append(ledgers, other)
				}
			case 3:
				d.Lay(api.Fate{At: 1 + c.below(6), Kind: c.below(6), Keep: c.keep()})
			default:
				l.Append(c.items(c.below(3))...)
			}
			for _, n := range numbersAround(3) {
				l.Get(n)
				l.Root(n)
				l.ProveAncestry(1, n)
			}
		}
	}
}
