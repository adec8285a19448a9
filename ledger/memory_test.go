package ledger_test

import (
	"fmt"
	"slices"
	"testing"

	"massif/api"
	"massif/disk"
	"massif/ledger"
)

// TestListOfItemsStays hands in lists with room behind them, in Appends that are taken, refused and met by fates.
func TestListOfItemsStays(t *testing.T) {
	c := chance(361)
	for n := range 12 {
		for kind := range 6 {
			for _, item := range []string{"good", overlong()} {
				p := begun(t, 2, c.items(n%5)...)
				p.lay(api.Fate{At: 1 + c.below(18), Kind: kind, Keep: c.keep()})
				whole := c.items(n + 4)
				whole[n/2] = item
				was := slices.Clone(whole)
				p.append(t, "P20.8", whole[:n]...)
				if !slices.Equal(whole, was) {
					t.Fatal("P20.8: the list or the room behind it was changed")
				}
			}
		}
	}
}

// TestListOfItemsIsNotKept changes the one list between Appends, and takes it for all of them.
func TestListOfItemsIsNotKept(t *testing.T) {
	c := chance(362)
	p := begun(t, 3)
	list := make([]string, 0, 20)
	for n := range 20 {
		list = append(list[:0], c.items(n%4)...)
		is(t, "P20.8: Append", p.append(t, "P20.8", list...), 0)
		for i := range cap(list) { // it is the caller's again
			list[:cap(list)][i] = "changed"
		}
		p.alike(t, "P20.8: the list was changed")
	}
	is(t, "P20.8: Open", p.open(t, "P20.8", 3), 0)
}

// TestSetStays hands in sets with room behind them, right ones and others, and changes them behind the call.
func TestSetStays(t *testing.T) {
	c := chance(363)
	items := counted(20)
	l, _ := made(t, 16, items...)
	m := &model{k: 16, items: items}
	for range 2000 {
		whole := make([]uint64, 12)
		for i := range whole {
			whole[i] = uint64(c.below(24))
		}
		n, count := uint64(c.below(24)), c.below(9)
		if c.below(2) == 0 {
			slices.Sort(whole)
		}
		was := slices.Clone(whole)
		got := answered(l.ProveBatch(n, whole[:count]...))
		if !slices.Equal(whole, was) {
			t.Fatalf("P20.8: the set or the room behind it is %d, was %d", whole, was)
		}
		clear(whole)
		is(t, "P20.5: ProveBatch", got, answered(m.batch(n, was[:count]...)))
		is(t, "P20.5: ProveBatch again", answered(l.ProveBatch(n, was[:count]...)), got)
	}
}

// TestLookingChangesNothing asks all: neither the disk nor what is told is another one.
func TestLookingChangesNothing(t *testing.T) {
	p := begun(t, 2, counted(5)...)
	for kind := 1; kind <= 5; kind++ {
		p.lay(api.Fate{At: 1, Kind: kind})
		for range 2 {
			p.alike(t, "P20.3: looking")
		}
		is(t, "P20.3: Acts", p.d.Acts(), 3)
		is(t, "P20.3: Down", p.d.Down(), false)
	}
}

// script makes calls by a rule, and tells all answers and the files.
func script(rule chance) string {
	c := &rule
	k := 1 + c.below(32)
	d := disk.New(great)
	text := ""
	for range 4 {
		d.Lay(api.Fate{At: 1 + c.below(40), Kind: c.below(4)})
		l, e := ledger.Open(d, k)
		text += fmt.Sprint("Open ", e)
		for range 6 {
			n, i := uint64(c.below(9)), uint64(c.below(9))
			text += fmt.Sprint(answered(l.Append(c.items(c.below(3))...)), answered(l.Size()), answered(l.Root(n)), answered(l.Get(i)))
			text += fmt.Sprint(answered(l.ProvePath(n, i)), answered(l.ProveBatch(n, i, i+1)), answered(l.ProveAncestry(i, n)), d.Acts())
		}
	}
	return text + fmt.Sprint(d.Files(), d.After(nil))
}

func TestOneAnswer(t *testing.T) {
	for rule := range chance(200) {
		first := script(rule)
		script(rule + 1000)
		if again := script(rule); again != first {
			t.Fatalf("R11: another answer the second time: %s, then %s", short(first), short(again))
		}
	}
}
