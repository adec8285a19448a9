package follow_test

import (
	"testing"

	"massif/api"
)

// unfit are proofs of bytes that are none, made of one: cut, with a byte behind, with another kind or strength ahead.
func unfit(s string) []string {
	list := []string{"", "rubbish", s + "\x00", s + s, "\x00" + s, "\x00" + s[1:], "\x04" + s[1:], s[:1] + "\x00" + s[2:], s[:1] + "\x21" + s[2:]}
	for at := range len(s) {
		list = append(list, s[:at])
	}
	return list
}

func TestWrongSizeFirst(t *testing.T) {
	for _, k := range []int{1, 32} {
		a := of(t, k, counted(6))
		p := that(t, a, 2, 6)
		for _, n := range []uint64{leaves + 1, 1 << 41, 1<<63 + 1, greatest} {
			for _, d := range []int{0, k - 1, k, k + 1} {
				for _, s := range []string{"", "rubbish", a.kin(t, 2, 6)} {
					p.hears(t, "P21.2: no size", api.Root{Size: n, Digest: zeros(d)}, s, 30)
				}
			}
		}
	}
}

// A digest that has not k bytes is refused at every size: above Now's, at a taken one, and at lesser ones.
func TestWrongDigest(t *testing.T) {
	for _, k := range []int{1, 2, 31, 32} {
		a := of(t, k, counted(9))
		p := that(t, a, 2, 6)
		for n := range uint64(10) {
			d := a.roots[n].Digest
			for _, wrong := range []string{"", d[:k-1], d + "\x00", d + d, d + "x"} {
				for _, s := range []string{"", "rubbish", a.kin(t, min(n, 6), max(n, 6)), a.kin(t, min(n, 2), n), a.kin(t, n, n)} {
					p.hears(t, "P21.2: no digest", api.Root{Size: n, Digest: wrong}, s, 150)
				}
			}
		}
		p.hears(t, "P21.2: no digest", api.Root{Size: leaves, Digest: zeros(k + 1)}, "", 150)
		p.hears(t, "P21.2: no proof", api.Root{Size: leaves, Digest: zeros(k)}, "", 140)
	}
}

// Every commitment of an archive with every proof of it, to followers that have taken any of its sizes.
func TestEveryProof(t *testing.T) {
	t.Parallel()
	const most = 6
	a := of(t, 32, counted(most))
	kins := map[[2]uint64]string{}
	for n := range uint64(most + 1) {
		for m := range n + 1 {
			kins[[2]uint64{m, n}] = a.kin(t, m, n)
		}
	}
	for set := uint(1); set < 1<<(most+1); set++ {
		var sizes []uint64
		for n := range uint64(most + 1) {
			if set>>n&1 == 1 {
				sizes = append(sizes, n)
			}
		}
		for n, c := range a.roots {
			for ends, s := range kins {
				p := that(t, a, sizes...)
				p.hears(t, "P21.2: an archive's own", c, s, wanted(sizes, uint64(n), ends))
				forked(t, "P21.5: an archive's own", p.f)
			}
		}
	}
}

// wanted is what a follower that has taken an archive's commitments of some sizes says to that of the size n with the archive's proof of two sizes.
func wanted(sizes []uint64, n uint64, ends [2]uint64) api.Errno {
	for _, taken := range sizes {
		if taken == n {
			return 0
		}
		if taken > n { // the first one above it is the one behind
			if ends == [2]uint64{n, taken} {
				return 0
			}
			return 211
		}
	}
	if ends == [2]uint64{sizes[len(sizes)-1], n} {
		return 0
	}
	return 150
}

// Above Now, at a taken size and below, with proofs of which a byte is turned, cut or put behind.
func TestTurnedProofs(t *testing.T) {
	for _, k := range []int{16, 32} {
		a := of(t, k, counted(13))
		x := of(t, k, branch(a.list, 4, 9))
		p := that(t, a, 3, 7)
		for _, w := range []struct {
			c    api.Root
			s    string
			step int
		}{{a.roots[13], a.kin(t, 7, 13), 2}, {x.roots[7], x.kin(t, 3, 7), 4}, {a.roots[5], a.kin(t, 5, 7), 5}, {x.roots[3], a.kin(t, 0, 3), 3}} {
			for _, s := range unfit(w.s) {
				p.hears(t, "P21.2: no proof", w.c, s, []api.Errno{2: 140, 3: 0, 4: 140, 5: 211}[w.step])
			}
			for at := range len(w.s) {
				row := []byte(w.s)
				row[at] ^= 1
				e := p.hear(t, "P21.2: a turned proof", w.c, string(row))
				if w.step == 2 && e != 140 && e != 150 || w.step == 3 && e != 0 || w.step == 4 && e != 140 && e != 150 || w.step == 5 && e != 211 {
					t.Errorf("P21.2: step %d with a turned proof: %d", w.step, e)
				}
			}
		}
		knows(t, "P21.2: turned proofs", p.f, a.roots[3], a.roots[7])
		forked(t, "P21.2: turned proofs", p.f)
	}
}

// The same digests under other commitments: a digest of another size, of another list, turned.
func TestTurnedCommitments(t *testing.T) {
	a := of(t, 32, counted(9))
	x := of(t, 32, branch(a.list, 1, 8))
	p := that(t, a, 3, 6)
	for n := range uint64(10) {
		proofs := []string{a.kin(t, min(n, 6), max(n, 6)), a.kin(t, min(n, 3), max(n, 3)), a.kin(t, 0, n), x.kin(t, min(n, 3), n), x.kin(t, min(n, 6), max(n, 6))}
		for _, d := range []string{a.roots[(n+1)%10].Digest, x.roots[(n+9)%10].Digest, other(a.roots[n].Digest), zeros(32)} {
			want := api.Errno(150)
			if n < 6 && n != 3 {
				want = 211
			}
			for _, s := range proofs {
				p.hears(t, "P21.2: another digest", api.Root{Size: n, Digest: d}, s, want)
			}
		}
	}
	knows(t, "P21.2: other digests", p.f, a.roots[3], a.roots[6])
}

// Proofs of paths and batches are none of beginnings, and one of another strength is none.
func TestOtherProofs(t *testing.T) {
	for _, k := range []int{1, 31, 32} {
		a := of(t, k, counted(9))
		weak := of(t, k%32+1, counted(9))
		x := of(t, k, branch(a.list, 3, 6))
		p := that(t, a, 2, 6)
		for n := uint64(1); n <= 9; n++ {
			proofs := append(a.items(t, n), x.items(t, n)...)
			proofs = append(proofs, weak.kin(t, min(n, 6), max(n, 6)), weak.kin(t, min(n, 2), n))
			for _, s := range proofs {
				switch {
				case n > 6:
					p.hears(t, "P21.2: above Now", a.roots[n], s, 150)
				case n == 2 || n == 6:
					p.hears(t, "P21.2: another digest", api.Root{Size: n, Digest: other(a.roots[n].Digest)}, s, 150)
				default:
					p.hears(t, "P21.2: a lesser size", a.roots[n], s, 211)
				}
			}
		}
	}
}

// Above Now the proof is that from Now: from another one that is taken it is refused.
func TestFromNowAlone(t *testing.T) {
	for _, k := range []int{2, 32} {
		a := of(t, k, counted(20))
		p := that(t, a, 0, 1, 5, 8, 13)
		for m := range uint64(21) {
			if m != 13 {
				p.hears(t, "P21.2: from another", a.roots[20], a.kin(t, m, 20), 150)
			}
		}
		p.hears(t, "P21.2: from Now to another", a.roots[20], a.kin(t, 13, 19), 150)
		p.hears(t, "P21.2: from Now", a.roots[20], a.kin(t, 13, 20), 0)
		p.hears(t, "P21.2: from what was Now", api.Root{Size: 21, Digest: zeros(k)}, a.kin(t, 13, 20), 150)
	}
}

// Sizes up to the greatest, by proofs that no list gave.
func TestGreatSizes(t *testing.T) {
	c := chance(2125)
	sizes := []uint64{0, 1, 2, 3, 1 << 16, 1<<16 + 1, 1<<32 - 1, 1 << 32, 1<<39 + 5, leaves - 1, leaves}
	for _, k := range []int{1, 16, 32} {
		for at, m := range sizes {
			for _, n := range sizes[at+1:] {
				old, now, s := c.byHand(t, k, m, n)
				p := begun(t, k, old)
				p.hears(t, "P21.2: above Now", now, s, 0)
				p.hears(t, "P21.2: the very one", old, "", 0)
				p.hears(t, "P21.2: beyond the greatest", api.Root{Size: leaves + 1, Digest: now.Digest}, s, 30)
				q := begun(t, k, now)
				q.hears(t, "P21.2: a lesser size", old, s, 0)
				knows(t, "P21.2: a lesser size", q.f, now)
				if k == 1 {
					continue // there another digest has a chance
				}
				q.hears(t, "P21.2: a lesser size", api.Root{Size: m, Digest: other(old.Digest)}, s, 211)
				r := begun(t, k, api.Root{Size: m, Digest: other(old.Digest)})
				r.hears(t, "P21.2: above Now", now, s, 150)
			}
		}
	}
}
