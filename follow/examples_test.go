package follow_test

import (
	"testing"

	"massif/api"
)

func TestExample(t *testing.T) {
	a := of(t, 32, []string{"a", "b", "c"})
	r := a.roots
	f := must(t, 32, r[2])
	knows(t, "example: New", f, r[2])
	forked(t, "example: New", f)
	is(t, "example: Hear(r3, p23)", f.Hear(r[3], a.kin(t, 2, 3)), 0)
	knows(t, "example: Hear(r3, p23)", f, r[2], r[3])
	is(t, "example: Hear(r2, rubbish)", f.Hear(r[2], "rubbish"), 0)
	is(t, "example: Hear(r1, p13)", f.Hear(r[1], a.kin(t, 1, 3)), 211)
	is(t, "example: Hear(r1, p12)", f.Hear(r[1], a.kin(t, 1, 2)), 0)
	knows(t, "example: Hear(r1, p12)", f, r[2], r[3])
	x := of(t, 32, []string{"a", "b", "x"})
	is(t, "example: Hear({3, t})", f.Hear(x.roots[3], x.kin(t, 2, 3)), 210)
	forked(t, "example: Hear({3, t})", f, [2]api.Root{r[3], x.roots[3]})
	knows(t, "example: Hear({3, t})", f, r[2], r[3])
	refused(t, "example", 0, r[2], 70)
	refused(t, "example", 32, api.Root{Size: 2}, 150)
}

// The whole's example 10.
func TestExampleTen(t *testing.T) {
	a, x := of(t, 32, []string{"a", "b", "c"}), of(t, 32, []string{"a", "b", "x"})
	f := must(t, 32, a.roots[2])
	is(t, "example 10: Hear(3, s)", f.Hear(a.roots[3], a.kin(t, 2, 3)), 0)
	knows(t, "example 10: Hear(3, s)", f, a.roots[2], a.roots[3])
	is(t, "example 10: Hear(3, t)", f.Hear(x.roots[3], x.kin(t, 2, 3)), 210)
	is(t, "example 10: Hear(2, r)", f.Hear(a.roots[2], a.kin(t, 2, 3)), 0)
	knows(t, "example 10: all", f, a.roots[2], a.roots[3])
	forked(t, "example 10: all", f, [2]api.Root{a.roots[3], x.roots[3]})
}

// The hard places.

func TestNoRootOfNothing(t *testing.T) {
	for _, k := range []int{1, 2, 32} {
		a := of(t, k, counted(9))
		wrong := api.Root{Size: 0, Digest: other(empty(k).Digest)}
		p := begun(t, k, wrong)
		for n := uint64(1); n <= 9; n++ {
			p.hears(t, "P21.2: nothing goes on from what is not the root of nothing", a.roots[n], a.kin(t, 0, n), 150)
		}
		p.hears(t, "P21.2: the very commitment", wrong, "", 0)
		third := api.Root{Size: 0, Digest: other(wrong.Digest)}
		if third == empty(k) {
			third.Digest = other(third.Digest)
		}
		p.hears(t, "P21.2: another digest of no item", third, a.kin(t, 0, 0), 150)
		p.hears(t, "P21.2: the root of nothing", empty(k), "rubbish", 140)
		p.hears(t, "P21.2: the root of nothing", empty(k), a.kin(t, 0, 1), 150)
		p.hears(t, "P21.2: the root of nothing", empty(k), a.kin(t, 0, 0), 210)
		forked(t, "P21.3: the root of nothing", p.f, [2]api.Root{wrong, empty(k)})
		knows(t, "P21.3: the root of nothing", p.f, wrong)
		p.hears(t, "P21.2: nothing goes on still", a.roots[1], a.kin(t, 0, 1), 150)
	}
}

// A follower that trusts no more than the root of nothing takes the first list that it is shown; of the least size any list's commitment is a fork.
func TestSizeZero(t *testing.T) {
	for _, k := range []int{1, 32} {
		a := of(t, k, counted(5))
		x := of(t, k, branch(a.list, 0, 7))
		p := begun(t, k, empty(k))
		p.hears(t, "P21.2: from nothing", x.roots[5], x.kin(t, 0, 5), 0)
		p.hears(t, "P21.2: from nothing again", a.roots[5], a.kin(t, 0, 5), 210)
		q := begun(t, k, x.roots[3])
		q.hears(t, "P21.2: at the least size", a.roots[3], a.kin(t, 1, 3), 150)
		q.hears(t, "P21.2: at the least size", a.roots[3], a.kin(t, 0, 3), 210)
		forked(t, "P21.6: at the least size", q.f, [2]api.Root{x.roots[3], a.roots[3]})
	}
}

func TestVeryCommitment(t *testing.T) {
	for _, k := range []int{1, 32} {
		a := of(t, k, counted(9))
		p := that(t, a, 0, 1, 4, 9)
		for _, n := range []uint64{0, 1, 4, 9} {
			for _, s := range []string{"", "rubbish", zeros(5000), a.kin(t, 0, n), a.kin(t, n, 9), a.kin(t, 9, 9), a.kin(t, 4, 9)[1:]} {
				p.hears(t, "P21.2: the very commitment", a.roots[n], s, 0)
			}
		}
		knows(t, "P21.2: the very commitments", p.f, a.roots[0], a.roots[1], a.roots[4], a.roots[9])
		forked(t, "P21.2: the very commitments", p.f)
	}
}

func TestForkIsNotTaken(t *testing.T) {
	a := of(t, 32, counted(9))
	x := of(t, 32, branch(a.list, 4, 8))
	p := that(t, a, 3, 6)
	p.hears(t, "P21.2: a fork", x.roots[6], x.kin(t, 3, 6), 210)
	p.hears(t, "P21.2: what goes on from a fork", x.roots[8], x.kin(t, 6, 8), 150)
	p.hears(t, "P21.2: what goes on from Now", a.roots[9], a.kin(t, 6, 9), 0)
	p.hears(t, "P21.2: what goes on from a fork", x.roots[9], x.kin(t, 6, 9), 150)
	p.hears(t, "P21.2: what goes into a fork", x.roots[5], x.kin(t, 5, 6), 211)
	knows(t, "P21.3: behind a fork", p.f, a.roots[3], a.roots[6], a.roots[9])
	forked(t, "P21.3: a fork", p.f, [2]api.Root{a.roots[6], x.roots[6]})
}

func TestForkTwiceAndThird(t *testing.T) {
	a := of(t, 32, counted(6))
	x, y := of(t, 32, branch(a.list, 4, 2)), of(t, 32, branch(a.list, 5, 1))
	p := that(t, a, 2, 6)
	for range 3 {
		p.hears(t, "P21.2: a fork", x.roots[6], x.kin(t, 2, 6), 210)
		forked(t, "P21.3: the same fork", p.f, [2]api.Root{a.roots[6], x.roots[6]})
	}
	for range 2 {
		p.hears(t, "P21.2: a third digest", y.roots[6], y.kin(t, 2, 6), 210)
		p.hears(t, "P21.2: the second digest", x.roots[6], x.kin(t, 2, 6), 210)
		forked(t, "P21.3: a third digest", p.f, [2]api.Root{a.roots[6], x.roots[6]}, [2]api.Root{a.roots[6], y.roots[6]})
	}
	p.hears(t, "P21.2: a fork with the proof of another", x.roots[6], y.kin(t, 2, 6), 150)
}

func TestOneBehindIsAsked(t *testing.T) {
	a := of(t, 32, counted(12))
	p := that(t, a, 3, 7, 12)
	for n := range uint64(12) {
		behind := uint64(12)
		if n < 7 {
			behind = 7
		}
		if n < 3 {
			behind = 3
		}
		for m := max(n, 1); m <= 12; m++ {
			want := api.Errno(211)
			if m == behind || n == 3 || n == 7 {
				want = 0
			}
			p.hears(t, "P21.2: a lesser size", a.roots[n], a.kin(t, n, m), want)
		}
	}
	knows(t, "P21.2: lesser sizes", p.f, a.roots[3], a.roots[7], a.roots[12])
}

// What is refused in the second step and in the fourth one has the checker's error, in the fifth one it is old.
func TestErrorsOfKin(t *testing.T) {
	for _, k := range []int{2, 32} {
		a := of(t, k, counted(9))
		x := of(t, k, branch(a.list, 3, 6))
		p := that(t, a, 2, 6)
		for _, w := range []struct {
			s string
			e api.Errno
		}{{"", 140}, {"rubbish", 140}, {a.kin(t, 2, 6) + "x", 140}, {a.kin(t, 1, 2), 150}, {a.items(t, 6)[0], 150}, {a.items(t, 6)[1], 150}} {
			p.hears(t, "P21.2: above Now", a.roots[9], w.s, w.e)
			p.hears(t, "P21.2: another digest", x.roots[6], w.s, w.e)
			p.hears(t, "P21.2: a lesser size", a.roots[4], w.s, 211)
		}
	}
}

// Of two unlike commitments of a lesser size, each with a proof into the one behind, both are as they may be.
func TestTwoLesserOnes(t *testing.T) {
	c := chance(211)
	a := of(t, 1, counted(9))
	p := that(t, a, 2, 7)
	seen := map[api.Root]int{}
	for range 20 {
		old, s := c.into(t, 1, 5, a.roots[7])
		p.hears(t, "P21.2: a lesser size by hand", old, s, 0)
		seen[old]++
	}
	if len(seen) < 10 {
		t.Errorf("only %d unlike commitments of one size", len(seen))
	}
	knows(t, "P21.2: lesser ones are never taken", p.f, a.roots[2], a.roots[7])
	forked(t, "P21.2: lesser ones are no forks", p.f)
}

// other is another digest of the same length.
func other(d string) string {
	row := []byte(d)
	row[len(row)-1]++
	return string(row)
}
