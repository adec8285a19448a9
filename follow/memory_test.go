package follow_test

import (
	"fmt"
	"runtime"
	"slices"
	"testing"
	"time"

	"massif/api"
	"massif/follow"
)

// Lists that come out are the caller's: what is done with them, and with the room behind them, is not seen by the follower, nor by lists that come later.
func TestAnsweredListsAreTheCallers(t *testing.T) {
	a := of(t, 32, counted(20))
	x := of(t, 32, branch(a.list, 0, 20))
	p := begun(t, 32, a.roots[0])
	bad := api.Root{Size: 77, Digest: "bad"}
	for n := uint64(1); n <= 20; n++ {
		before, forks := p.f.Known(), p.f.Forks()
		spoil(before, bad)
		spoil(forks, [2]api.Root{bad, bad})
		p.alike(t, "P21.8: lists were changed")
		p.hears(t, "P21.8", a.roots[n], a.kin(t, n-1, n), 0)
		p.hears(t, "P21.8", x.roots[1], x.kin(t, 0, 1), 210)
		known, again := p.f.Known(), p.f.Known()
		pair, twice := p.f.Forks(), p.f.Forks()
		spoil(known, bad)
		spoil(pair, [2]api.Root{bad, bad})
		if !slices.Equal(again, p.m.known()) || !slices.Equal(twice, p.m.forks) {
			t.Fatal("P21.8: two lists that were answered have one room")
		}
		for _, r := range before {
			is(t, "P21.8: a list that was answered ahead of Hear", r, bad)
		}
		p.alike(t, "P21.8: lists were changed")
	}
}

// spoil lays bad into a list and all the room behind it.
func spoil[T any](list []T, bad T) {
	list = list[:cap(list)]
	for at := range list {
		list[at] = bad
	}
}

// Lists that were answered stay as they were, whatever is heard later.
func TestAnsweredListsStay(t *testing.T) {
	a := of(t, 32, counted(40))
	x := of(t, 32, branch(a.list, 0, 40))
	p := begun(t, 32, a.roots[1])
	var knowns [][]api.Root
	var forks [][][2]api.Root
	for n := uint64(2); n <= 40; n++ {
		knowns, forks = append(knowns, p.f.Known()), append(forks, p.f.Forks())
		p.hears(t, "P21.2", a.roots[n], a.kin(t, n-1, n), 0)
		p.hear(t, "P21.2", x.roots[1], x.kin(t, 0, 1))
	}
	for at, list := range knowns {
		if !slices.Equal(list, a.roots[1:at+2]) {
			t.Fatalf("P21.8: the list that was answered as number %d is %s now", at, shown(list))
		}
		is(t, "P21.8: how many forks a list has that was answered", len(forks[at]), min(at, 1))
	}
}

// Two followers of one archive, and some of others, in turns: none knows of what another one hears.
func TestFollowersInTurns(t *testing.T) {
	t.Parallel()
	c := chance(2152)
	for range 20 {
		k := pick(&c, 1, 2, 32)
		lists := c.world(t, k)
		var all []*watched
		for range 5 {
			x := lists[c.below(len(lists))]
			all = append(all, watch(begun(t, k, x.roots[c.below(min(4, len(x.roots)))])))
		}
		for range 200 {
			w := all[c.below(len(all))]
			r, s := c.told(t, w.m, lists)
			w.hear(t, r, s)
			for _, other := range all {
				other.alike(t, "P21.8: of several followers")
			}
		}
	}
}

// Looking changes nothing.
func TestLookingChangesNothing(t *testing.T) {
	a := of(t, 32, counted(9))
	x := of(t, 32, branch(a.list, 2, 7))
	p := that(t, a, 2, 5, 9)
	p.hears(t, "P21.2: a fork", x.roots[5], x.kin(t, 2, 5), 210)
	for range 5 {
		p.alike(t, "P21.3: asked again")
	}
}

// script makes calls by a rule, and tells all answers.
func script(t *testing.T, rule chance) string {
	t.Helper()
	c := &rule
	k := pick(c, 1, 2, 16, 32)
	lists := c.world(t, k)
	x := lists[c.below(len(lists))]
	first := x.roots[c.below(len(x.roots))]
	m, _ := newModel(k, first)
	f, e := follow.New(k, first)
	text := fmt.Sprint("New ", e)
	for range 30 {
		r, s := c.told(t, m, lists)
		m.hear(r, s)
		text += fmt.Sprint(f.Hear(r, s), f.Now(), f.Known(), f.Forks())
	}
	return text
}

func TestOneAnswer(t *testing.T) {
	t.Parallel()
	for rule := range chance(100) {
		first := script(t, rule)
		script(t, rule+1000)
		if again := script(t, rule); again != first {
			t.Fatalf("R11: another answer the second time: %s, then %s", short(first), short(again))
		}
	}
}

// Many that are taken, many lesser ones and many forks: no call goes through all of them, and no proof is kept.
func TestMany(t *testing.T) {
	const many = 20000
	a := longOne(t, many)
	f := must(t, 32, a.roots[0])
	began := time.Now()
	hear := func(c api.Root, s string, want api.Errno) {
		if e := f.Hear(c, s); e != want {
			t.Fatalf("P21.2: Hear(%s) of many is %d, want %d", one(c), e, want)
		}
	}
	for n := uint64(2); n <= many; n += 2 {
		hear(a.roots[n], a.kin(t, n-2, n), 0)
	}
	for n := uint64(1); n < many; n += 2 {
		hear(a.roots[n], a.kin(t, n, n+1), 0)
		hear(a.roots[n], a.kin(t, n-1, n), 211)
	}
	c := chance(2153)
	for range many {
		_, now, s := c.byHand(t, 32, 0, 2)
		hear(now, s, 210)
	}
	is(t, "P21.3: how many are known", len(f.Known()), many/2+1)
	is(t, "P21.3: how many forks", len(f.Forks()), many)
	if d := time.Since(began); d > 60*time.Second {
		t.Errorf("many calls took %v", d)
	}
}

// longOne is a long archive of strength 32 whose roots are told by its forest.
func longOne(t *testing.T, n int) archive {
	t.Helper()
	a := of(t, 32, nil)
	for i, item := range counted(n) {
		a.nodes.Append(item)
		r, e := a.nodes.Root(uint64(i + 1))
		if e != 0 {
			t.Fatalf("no root of %d: %d", i+1, e)
		}
		a.roots = append(a.roots, r)
	}
	return a
}

// Great texts that are handed in as proofs are not kept.
func TestProofsAreNotKept(t *testing.T) {
	a := of(t, 32, counted(9))
	p := that(t, a, 2, 9)
	for _, c := range []api.Root{a.roots[2], a.roots[5], {Size: 9, Digest: other(a.roots[9].Digest)}, {Size: 10, Digest: zeros(32)}} {
		before := inUse()
		for range 8 {
			p.f.Hear(c, zeros(1<<22))
		}
		if after := inUse(); after > before+1<<22 {
			t.Errorf("P21.8: %d bytes more are kept behind Hear(%s)", after-before, one(c))
		}
	}
	runtime.KeepAlive(p)
}

// inUse is how many bytes are in use.
func inUse() uint64 {
	var m runtime.MemStats
	runtime.GC()
	runtime.ReadMemStats(&m)
	return m.HeapAlloc
}
