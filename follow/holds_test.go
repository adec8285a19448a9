package follow_test

import (
	"slices"
	"testing"

	"massif/api"
	"massif/extract"
)

// What P21.4 and P0.8 say, asked at every call: behind each one it looks at what was told ahead of it.
type watched struct {
	pair
	known []api.Root
	forks [][2]api.Root
}

func watch(p pair) *watched {
	return &watched{p, p.f.Known(), p.f.Forks()}
}

func (w *watched) hear(t *testing.T, c api.Root, proof string) api.Errno {
	t.Helper()
	e := w.f.Hear(c, proof)
	if want := w.m.hear(c, proof); e != want {
		t.Fatalf("P21.2: Hear(%s) is %d, want %d; Known was %s", one(c), e, want, shown(w.known))
	}
	known, forks := w.f.Known(), w.f.Forks()
	if len(known) < len(w.known) || !slices.Equal(known[:len(w.known)], w.known) {
		t.Fatalf("P21.4: Known is %s, was %s", shown(known), shown(w.known))
	}
	if len(known) > len(w.known)+1 || len(known) > len(w.known) && (e != 0 || known[len(w.known)] != c) {
		t.Fatalf("P21.4: Hear(%s) is %d, Known is %s, was %s", one(c), e, shown(known), shown(w.known))
	}
	for at := 1; at < len(known); at++ {
		if known[at-1].Size >= known[at].Size {
			t.Fatalf("P21.3: Known is not rising: %s", shown(known))
		}
	}
	if w.f.Now() != known[len(known)-1] {
		t.Fatalf("P21.4: Now is %s of %s", one(w.f.Now()), shown(known))
	}
	if len(forks) < len(w.forks) || !slices.Equal(forks[:len(w.forks)], w.forks) {
		t.Fatalf("P21.3: Forks are %s, were %s", pairs(forks), pairs(w.forks))
	}
	if len(forks) > len(w.forks)+1 || len(forks) > len(w.forks) && e != 210 {
		t.Fatalf("P21.6: Hear(%s) is %d, Forks are %s, were %s", one(c), e, pairs(forks), pairs(w.forks))
	}
	for _, x := range forks {
		if x[0].Size != x[1].Size || x[0].Digest == x[1].Digest || !slices.Contains(known, x[0]) || slices.Contains(known, x[1]) {
			t.Fatalf("P0.8: a fork is %s and %s, of %s", one(x[0]), one(x[1]), shown(known))
		}
	}
	w.known, w.forks = known, forks
	return e
}

// world is what there is to hear of: an archive, and others that part from it.
func (c *chance) world(t *testing.T, k int) []archive {
	t.Helper()
	a := of(t, k, c.items(1+c.below(14)))
	list := []archive{a}
	for range 3 {
		from := list[c.below(len(list))]
		at := c.below(from.size() + 1)
		list = append(list, of(t, k, append(slices.Clone(from.list[:at]), c.items(c.below(15-at))...)))
	}
	return list
}

// told is a commitment and a proof by chance: of a list, with one of the proofs that may be asked for, or with anything changed.
func (c *chance) told(t *testing.T, m *model, lists []archive) (api.Root, string) {
	t.Helper()
	x := lists[c.below(len(lists))]
	n := uint64(c.below(x.size() + 1))
	r := x.roots[n]
	y := x
	if c.below(6) == 0 {
		y = lists[c.below(len(lists))]
	}
	ends := []uint64{m.now().Size, m.ahead(n).Size, m.behind(n).Size, uint64(c.below(15))}
	end := min(ends[c.below(4)], uint64(y.size()))
	n = min(n, uint64(y.size()))
	s := y.kin(t, min(n, end), max(n, end))
	switch c.below(16) {
	case 0:
		s = s[:c.below(len(s)+1)]
	case 1:
		s = ""
	case 2:
		row := []byte(s)
		row[c.below(len(row))] ^= byte(1 + c.below(255))
		s = string(row)
	case 3:
		r.Digest = c.text(m.k)
	case 4:
		r.Size = pick(c, r.Size+1, leaves+1, leaves, greatest, c.next())
	case 5:
		r.Digest = c.text(c.below(34))
	case 6:
		if n > 0 {
			s = pick(c, y.items(t, n)...)
		}
	}
	return r, s
}

// byTrying is a commitment with a proof that leads to it, made by trying at strength 1: from Now, from the one ahead of a taken one, or into one behind.
func (c *chance) byTrying(t *testing.T, m *model) (api.Root, string) {
	t.Helper()
	n := uint64(c.below(15))
	if c.below(2) == 0 {
		n = m.taken[c.below(len(m.taken))].Size
	}
	if start := m.ahead(n); n >= m.now().Size || c.below(2) == 0 {
		if start.Size > 0 || start == empty(m.k) {
			return c.from(t, m.k, start, n)
		}
	}
	return c.into(t, m.k, min(n, m.now().Size), m.behind(n))
}

func TestByChance(t *testing.T) {
	t.Parallel()
	c := chance(2141)
	heard := map[api.Errno]int{}
	taken, forks := 0, 0
	for _, k := range []int{1, 2, 7, 31, 32} {
		for range 150 {
			lists := c.world(t, k)
			x := lists[c.below(len(lists))]
			w := watch(begun(t, k, x.roots[c.below(min(4, len(x.roots)))]))
			for range 40 {
				r, s := c.told(t, w.m, lists)
				if k == 1 && c.below(8) == 0 {
					r, s = c.byTrying(t, w.m)
				}
				heard[w.hear(t, r, s)]++
			}
			taken += len(w.known) - 1
			forks += len(w.forks)
		}
	}
	for _, e := range []api.Errno{0, 30, 140, 150, 210, 211} {
		if heard[e] < 200 {
			t.Errorf("only %d calls of %d answered %d", heard[e], 150*5*40, e)
		}
	}
	if taken < 1000 || forks < 500 {
		t.Errorf("only %d taken and %d forks", taken, forks)
	}
}

// An archive's own commitments in any order, each with the archive's own proof.
func TestArchivesOwn(t *testing.T) {
	t.Parallel()
	c := chance(2142)
	for _, k := range []int{1, 2, 16, 32} {
		a := of(t, k, c.items(25))
		for range 60 {
			w := watch(begun(t, k, a.roots[c.below(26)]))
			for range 2 {
				for _, n := range c.order(26) {
					now := w.m.now().Size
					s := "" // of a taken one no proof is asked for
					if n > now {
						s = a.kin(t, now, n)
					} else if !slices.Contains(w.known, a.roots[n]) {
						s = a.kin(t, n, w.m.behind(n).Size)
					}
					is(t, "P21.5: an archive's own", w.hear(t, a.roots[n], s), 0)
					is(t, "P21.5: Now", w.f.Now().Size, max(now, n))
				}
			}
			is(t, "P21.5: how many forks", len(w.forks), 0)
			is(t, "P21.4: Now at the end", w.f.Now(), a.roots[25])
		}
	}
}

// The second of a fork is led to from the one ahead: no proof from elsewhere makes one.
func TestWhatAForkIs(t *testing.T) {
	c := chance(2143)
	for range 40 {
		a := of(t, 1, c.items(9))
		p := that(t, a, 2, 5, 9)
		for at, n := range []uint64{2, 5, 9} {
			ahead := []api.Root{empty(1), a.roots[2], a.roots[5]}[at]
			now, s := c.from(t, 1, ahead, n)
			want := api.Errno(210)
			if now == a.roots[n] {
				want = 0
			}
			p.hears(t, "P21.6: led to from the one ahead", now, s, want)
			elsewhere, s := c.from(t, 1, a.roots[1], n) // of a size that none is taken of
			want = 150
			if elsewhere == a.roots[n] {
				want = 0
			}
			p.hears(t, "P21.6: led to from elsewhere", elsewhere, s, want)
		}
	}
}

// listOf is a list with a commitment, found by trying; it is near another one, if that may be.
func (c *chance) listOf(t *testing.T, near []string, root api.Root) []string {
	t.Helper()
	n := int(root.Size)
	if n <= len(near) && rootOf(1, near[:n]) == root {
		return near[:n]
	}
	for range 1 << 14 {
		list := slices.Clone(near[:min(n, len(near))])
		for len(list) < n {
			list = append(list, c.text(3))
		}
		if n > 0 {
			list[c.below(n)] = c.text(3)
		}
		if rootOf(1, list) == root {
			return list
		}
	}
	t.Fatalf("no list of %s", one(root))
	return nil
}

// Commitments that were taken by proofs of whatever is so or not, and lists behind them: of any two the lesser list is a beginning of the greater, or along the proofs two texts of one digest are found.
func TestSound(t *testing.T) {
	t.Parallel()
	c := chance(2144)
	beginnings, texts := 0, 0
	for range 150 {
		first := of(t, 1, c.items(c.below(5)))
		w := watch(begun(t, 1, first.roots[first.size()]))
		lists := [][]string{first.list}
		var proofs []string
		for range 4 {
			last := lists[len(lists)-1]
			n := uint64(len(last) + 1 + c.below(3))
			now, s := c.from(t, 1, w.f.Now(), n)
			if c.below(2) == 0 { // one that is so
				a := of(t, 1, append(slices.Clone(last), c.items(int(n)-len(last))...))
				now, s = a.roots[n], a.kin(t, uint64(len(last)), n)
			}
			if e := w.hear(t, now, s); e != 0 {
				t.Fatalf("P21.2: what goes on from Now: %d", e)
			}
			lists, proofs = append(lists, c.listOf(t, last, now)), append(proofs, s)
		}
		for i := range lists {
			for j := i + 1; j < len(lists); j++ {
				if slices.Equal(lists[i], lists[j][:len(lists[i])]) {
					beginnings++
					continue
				}
				texts++
				if !found(lists[i:j+1], proofs[i:j]) {
					t.Fatalf("P21.7: %q is no beginning of %q, and no two texts of one digest are found", lists[i], lists[j])
				}
			}
		}
	}
	if beginnings < 200 || texts < 200 {
		t.Errorf("only %d beginnings and %d others", beginnings, texts)
	}
}

// found tells whether two unlike texts of one digest are found along proofs, each of a list and the next one.
func found(lists [][]string, proofs []string) bool {
	for at, s := range proofs {
		x, y, ok := extract.Kin(1, lists[at], lists[at+1], s)
		if ok && x != y && digest(1, x) == digest(1, y) {
			return true
		}
	}
	return false
}
