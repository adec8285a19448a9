package follow_test

import (
	"math"
	"testing"

	"massif/api"
	"massif/follow"
)

func TestNew(t *testing.T) {
	c := chance(2121)
	for k := 1; k <= 32; k++ {
		for _, n := range []uint64{0, 1, 2, 3, 1<<16 - 1, 1 << 16, 1<<16 + 1, leaves - 1, leaves} {
			for _, d := range []string{c.text(k), zeros(k), digest(k, "x")} {
				first := api.Root{Size: n, Digest: d}
				p := begun(t, k, first)
				knows(t, "P21.1", p.f, first)
				forked(t, "P21.1", p.f)
			}
		}
	}
}

func TestNewOfNoStrength(t *testing.T) {
	for _, k := range []int{0, -1, 33, 34, 64, 256 + 32, -32, 1<<32 + 32, math.MaxInt, math.MinInt, math.MinInt + 32} {
		for _, n := range []uint64{0, 2, leaves, leaves + 1, greatest} {
			for _, d := range []int{0, 1, 31, 32, 33, max(0, min(k, 300))} {
				refused(t, "P21.1: no strength", k, api.Root{Size: n, Digest: zeros(d)}, 70)
			}
		}
	}
}

func TestNewOfWrongSize(t *testing.T) {
	for _, k := range []int{1, 2, 31, 32} {
		for _, n := range []uint64{leaves + 1, leaves + 2, 1 << 41, 1<<63 + 5, greatest - 1, greatest} {
			for _, d := range []int{0, k - 1, k, k + 1} {
				refused(t, "P21.1: no size", k, api.Root{Size: n, Digest: zeros(d)}, 30)
			}
		}
	}
}

func TestNewOfWrongDigest(t *testing.T) {
	for k := 1; k <= 32; k++ {
		for _, n := range []uint64{0, 1, 2, leaves} {
			for _, d := range []int{0, k - 1, k + 1, 2 * k, 33, 64, 1000} {
				if d != k {
					refused(t, "P21.1: no digest", k, api.Root{Size: n, Digest: zeros(d)}, 150)
				}
			}
		}
	}
}

// The numbers of each error stand in their order, whatever else is wrong.
func TestOrderOfNew(t *testing.T) {
	for k := -3; k <= 36; k++ {
		for _, n := range []uint64{0, 1, leaves - 1, leaves, leaves + 1, greatest} {
			for d := range 40 {
				first := api.Root{Size: n, Digest: zeros(d)}
				f, e := follow.New(k, first)
				_, want := newModel(k, first)
				if e != want || (f == nil) != (want != 0) {
					t.Fatalf("P21.1: New(%d, %s): %v, %d, want %d", k, one(first), f != nil, e, want)
				}
			}
		}
	}
}

// A follower that New did not make has no strength, and nothing else: its calls end.
func TestNoFollower(t *testing.T) {
	a := of(t, 32, counted(3))
	for _, f := range []*follow.Follower{nil, {}} {
		for _, c := range []api.Root{{}, a.roots[2], {Size: greatest}, {Size: 2, Digest: "short"}} {
			is(t, "R4: Hear of no follower", f.Hear(c, a.kin(t, 0, 2)), 70)
			is(t, "R4: Hear of no follower", f.Hear(c, ""), 70)
		}
		is(t, "Now of no follower", f.Now(), api.Root{})
		is(t, "Known of no follower", len(f.Known()), 0)
		is(t, "Forks of no follower", len(f.Forks()), 0)
	}
}
