package follow_test

import (
	"slices"
	"testing"

	"massif/api"
)

// Two lists with a beginning in common, and a follower that has taken any sizes of the one: each commitment of the other with each proof of it.
func TestTwoLists(t *testing.T) {
	t.Parallel()
	const most = 6
	for common := range uint64(most) {
		a := of(t, 32, counted(most))
		x := of(t, 32, branch(a.list, int(common), most+1-int(common)))
		for set := uint(1); set < 1<<(most+1); set++ {
			var sizes []uint64
			for n := range uint64(most + 1) {
				if set>>n&1 == 1 {
					sizes = append(sizes, n)
				}
			}
			p := that(t, a, sizes...)
			forks := 0
			for n := common + 1; n <= most+1; n++ {
				for m := range n + 1 {
					want := strange(sizes, common, m, n)
					if want == 0 {
						that(t, a, sizes...).hears(t, "P21.2: another list goes on", x.roots[n], x.kin(t, m, n), 0)
						continue
					}
					p.hears(t, "P21.2: another list", x.roots[n], x.kin(t, m, n), want)
					if want == 210 {
						is(t, "P21.6: a fork's pair", p.f.Forks()[forks], [2]api.Root{a.roots[n], x.roots[n]})
						forks++
					}
				}
			}
			is(t, "P21.3: how many forks", len(p.f.Forks()), forks)
		}
	}
}

// strange is what a follower that has taken one list's commitments of some sizes says to another list's commitment of the size n, with that list's proof from m on; only so many of its first items are the same, and n is greater.
func strange(sizes []uint64, common, m, n uint64) api.Errno {
	ahead, taken := uint64(0), false
	for _, size := range sizes {
		if size < n {
			ahead = size
		}
		taken = taken || size == n
	}
	leads := m == ahead && ahead <= common
	switch now := sizes[len(sizes)-1]; {
	case n > now && leads:
		return 0
	case n < now && !taken:
		return 211
	case n <= now && leads:
		return 210
	}
	return 150
}

// At each taken size another digest, with the proof from the one ahead and with those from all others.
func TestForkAtEachSize(t *testing.T) {
	a := of(t, 32, counted(20))
	sizes := []uint64{3, 4, 7, 12, 13, 20}
	for at, n := range sizes {
		ahead := uint64(0)
		if at > 0 {
			ahead = sizes[at-1]
		}
		x := of(t, 32, branch(a.list, int(ahead), 20-int(ahead)))
		p := that(t, a, sizes...)
		for m := range n + 1 {
			want := api.Errno(150)
			if m == ahead {
				want = 210
			}
			p.hears(t, "P21.2: another digest", x.roots[n], x.kin(t, m, n), want)
		}
		p.hears(t, "P21.2: from the one ahead to another", x.roots[n], a.kin(t, ahead, n), 150)
		forked(t, "P21.3: one fork", p.f, [2]api.Root{a.roots[n], x.roots[n]})
		knows(t, "P21.6: what is forked is not taken", p.f, a.roots[3], a.roots[4], a.roots[7], a.roots[12], a.roots[13], a.roots[20])
	}
}

// Several lists that fork at one size, heard by chance: each is told once, in the order in which it was first heard.
func TestForksAsTheyCame(t *testing.T) {
	c := chance(2131)
	for _, k := range []int{8, 32} {
		a := of(t, k, counted(9))
		var lists []archive
		for n := range 6 {
			list := branch(a.list, 2, 7)
			list[8-n] = "its own"
			lists = append(lists, of(t, k, list))
		}
		for range 20 {
			p := that(t, a, 2, 9)
			var came [][2]api.Root
			for range 12 {
				x := lists[c.below(6)]
				p.hears(t, "P21.2: a fork", x.roots[9], x.kin(t, 2, 9), 210)
				if pair := [2]api.Root{a.roots[9], x.roots[9]}; !slices.Contains(came, pair) {
					came = append(came, pair)
				}
				forked(t, "P21.3: as they came", p.f, came...)
			}
		}
	}
}

// Sizes that fork by turns: the later size ahead of the lesser one, as they are heard.
func TestForksOfSeveralSizes(t *testing.T) {
	a := of(t, 32, counted(30))
	sizes := []uint64{0, 1, 2, 5, 9, 17, 30}
	c := chance(2132)
	for range 30 {
		p := that(t, a, sizes...)
		var came [][2]api.Root
		for _, at := range c.order(6) {
			m, n := sizes[at], sizes[at+1]
			for more := range 1 + c.below(3) {
				x := of(t, 32, append(branch(a.list, int(m), int(n-m)-1), counted(100)[50+more]))
				p.hears(t, "P21.2: a fork", x.roots[n], x.kin(t, m, n), 210)
				came = append(came, [2]api.Root{a.roots[n], x.roots[n]})
				forked(t, "P21.3: as they came", p.f, came...)
			}
		}
		for _, at := range c.order(len(came)) {
			n := came[at][0].Size
			p.hears(t, "P21.4: what is taken stays taken", a.roots[n], "", 0)
		}
	}
}

// A greater commitment that was taken from another list: then the archive's own one is the fork.
func TestStrangerFirst(t *testing.T) {
	a := of(t, 32, counted(9))
	x := of(t, 32, branch(a.list, 4, 5))
	p := that(t, a, 3)
	p.hears(t, "P21.2: above Now", x.roots[6], x.kin(t, 3, 6), 0)
	p.hears(t, "P21.2: the archive's own", a.roots[6], a.kin(t, 3, 6), 210)
	forked(t, "P21.3: the taken one first", p.f, [2]api.Root{x.roots[6], a.roots[6]})
	p.hears(t, "P21.2: the archive's own", a.roots[9], a.kin(t, 6, 9), 150)
	p.hears(t, "P21.2: before they part", a.roots[4], x.kin(t, 4, 6), 0)
	p.hears(t, "P21.2: behind where they part", a.roots[5], a.kin(t, 5, 6), 211)
	knows(t, "P21.3: the taken ones", p.f, a.roots[3], x.roots[6])
}
