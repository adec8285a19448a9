package follow_test

import (
	"fmt"
	"slices"
	"testing"

	"massif/api"
	"massif/follow"
)

// is tells a fault, if an answer is not the one that it must be.
func is[T comparable](t *testing.T, what string, got, want T) {
	t.Helper()
	if got != want {
		t.Errorf("%s: %v, want %v", what, short(fmt.Sprintf("%v", got)), short(fmt.Sprintf("%v", want)))
	}
}

// must is the follower that New answers.
func must(t *testing.T, k int, first api.Root) *follow.Follower {
	t.Helper()
	f, e := follow.New(k, first)
	if f == nil || e != 0 {
		t.Fatalf("P21.1: New(%d, %s): %v, %d", k, one(first), f != nil, e)
	}
	return f
}

// refused has New answer no follower and an error.
func refused(t *testing.T, what string, k int, first api.Root, e api.Errno) {
	t.Helper()
	f, got := follow.New(k, first)
	if f != nil || got != e {
		t.Errorf("%s: New(%d, %s): %v, %d, want %d", what, k, one(first), f != nil, got, e)
	}
}

// knows tells a fault, if what a follower has taken is not just this, rising.
func knows(t *testing.T, what string, f *follow.Follower, want ...api.Root) {
	t.Helper()
	if got := f.Known(); !slices.Equal(got, want) {
		t.Errorf("%s: Known is %s, want %s", what, shown(got), shown(want))
	}
	if got := f.Now(); got != want[len(want)-1] {
		t.Errorf("%s: Now is %s, want %s", what, one(got), one(want[len(want)-1]))
	}
}

// forked tells a fault, if a follower's forks are not just these.
func forked(t *testing.T, what string, f *follow.Follower, want ...[2]api.Root) {
	t.Helper()
	if got := f.Forks(); !slices.Equal(got, want) {
		t.Errorf("%s: Forks are %s, want %s", what, pairs(got), pairs(want))
	}
}

// pair is a follower beside one by the chapter's words.
type pair struct {
	f *follow.Follower
	m *model
}

// begun is a pair that trusts a first commitment.
func begun(t *testing.T, k int, first api.Root) pair {
	t.Helper()
	m, e := newModel(k, first)
	if e != 0 {
		t.Fatalf("New(%d, %s) of the model: %d", k, one(first), e)
	}
	p := pair{f: must(t, k, first), m: m}
	p.alike(t, "P21.1")
	return p
}

// that is a pair that has taken commitments of an archive, of these sizes.
func that(t *testing.T, a archive, sizes ...uint64) pair {
	t.Helper()
	p := begun(t, a.k, a.roots[sizes[0]])
	for at, n := range sizes[1:] {
		p.hears(t, "P21.2", a.roots[n], a.kin(t, sizes[at], n), 0)
	}
	return p
}

// alike tells a fault, if the two tell other things.
func (p pair) alike(t *testing.T, what string) {
	t.Helper()
	if got, want := p.f.Known(), p.m.known(); !slices.Equal(got, want) {
		t.Fatalf("%s: Known is %s, want %s", what, shown(got), shown(want))
	}
	if got, want := p.f.Now(), p.m.now(); got != want {
		t.Fatalf("%s: Now is %s, want %s", what, one(got), one(want))
	}
	if got, want := p.f.Forks(), p.m.forks; !slices.Equal(got, want) {
		t.Fatalf("%s: Forks are %s, want %s", what, pairs(got), pairs(want))
	}
}

// hear asks both, and holds all that they tell against each other.
func (p pair) hear(t *testing.T, what string, c api.Root, proof string) api.Errno {
	t.Helper()
	was := shown(p.m.known())
	want := p.m.hear(c, proof)
	got := p.f.Hear(c, proof)
	if got != want {
		t.Fatalf("%s: Hear(%s, %s) is %d, want %d; Known was %s", what, one(c), short(fmt.Sprintf("%x", proof)), got, want, was)
	}
	p.alike(t, fmt.Sprintf("%s: Hear(%s): %d", what, one(c), got))
	return got
}

// hears asks both for an answer that is known beforehand.
func (p pair) hears(t *testing.T, what string, c api.Root, proof string, want api.Errno) {
	t.Helper()
	known, forks := p.f.Known(), p.f.Forks()
	got := p.hear(t, what, c, proof)
	if got != want {
		t.Errorf("%s: Hear(%s) is %d, want %d; Known was %s", what, one(c), got, want, shown(known))
	}
	if got == 0 || got == 210 {
		return
	}
	if !slices.Equal(p.f.Known(), known) || !slices.Equal(p.f.Forks(), forks) {
		t.Errorf("R1: %s: behind the error %d Known is %s, was %s; Forks are %s, were %s", what, got, shown(p.f.Known()), shown(known), pairs(p.f.Forks()), pairs(forks))
	}
}
