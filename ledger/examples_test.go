package ledger_test

import (
	"slices"
	"testing"

	"massif/api"
	"massif/disk"
)

func TestExample(t *testing.T) {
	d := disk.New(100000)
	l := must(t, "example", d, 32)
	is(t, "example: Append", answered(l.Append("a", "b", "c")), answer[int]{3, 0})
	is(t, "example: Size", answered(l.Size()), answer[uint64]{3, 0})
	a, b, c := leaf(32, "a"), leaf(32, "b"), leaf(32, "c")
	root := digest(32, "\x03"+zeros(7)+"\x03"+digest(32, "\x02"+node(32, a, b)+c))
	is(t, "example: Root", answered(l.Root(3)), answer[api.Root]{api.Root{Size: 3, Digest: root}, 0})
	is(t, "example: Get", answered(l.Get(1)), answer[string]{"b", 0})
	is(t, "example: Get", answered(l.Get(3)), answer[string]{"", 31})
	is(t, "example: ProveBatch of no number", answered(l.ProveBatch(3)), answer[string]{"", 40})
	is(t, "example: ProveBatch", answered(l.ProveBatch(3, 0, 2)), answer[string]{"\x02\x20\x03\x02\x00\x01" + b, 0})
	is(t, "example: ProveAncestry", answered(l.ProveAncestry(2, 3)), answer[string]{"\x03\x20\x03\x02" + node(32, a, b) + c, 0})
	is(t, "example: ProvePath", answered(l.ProvePath(3, 0)), answer[string]{"\x01\x20\x03\x00" + b + c, 0})
	is(t, "example: Close", l.Close(), 0)
	is(t, "example: Size behind Close", answered(l.Size()), answer[uint64]{0, 200})
	refused(t, "example", d, 16, 190)
	same(t, "example", opened(t, "example", 32, d), []string{"a", "b", "c"})
}

// The hard places.

func TestTooLongInTheMiddle(t *testing.T) {
	l, d := made(t, 8)
	is(t, "P20.2: Append", answered(l.Append("a", overlong(), "b")), answer[int]{1, 100})
	is(t, "P20.2: Acts", d.Acts(), 3+6)
	same(t, "P20.2", contents(t, "P20.2", l), []string{"a"})
	is(t, "P20.2: Append behind it", answered(l.Append("c")), answer[int]{1, 0})
}

func TestNothingToALameLedger(t *testing.T) {
	l, d := made(t, 8, "a")
	d.Lay(api.Fate{At: 1, Kind: 1})
	is(t, "P20.7: Append", answered(l.Append("b")), answer[int]{0, 171})
	is(t, "P20.2: Append of no items", answered(l.Append()), answer[int]{0, 0})
	is(t, "P20.7: Append of one", answered(l.Append("")), answer[int]{0, 191})
	is(t, "P20.7: Append of one that is too long", answered(l.Append(overlong())), answer[int]{0, 100})
	is(t, "P20.7: Append of some", answered(l.Append("c", overlong())), answer[int]{0, 191})
}

func TestEarlierSize(t *testing.T) {
	l, _ := made(t, 32, "a")
	var roots []api.Root
	var paths, kins []string
	ask := func(n uint64) {
		root, _ := l.Root(n)
		way, e := l.ProvePath(n, n-1)
		is(t, "P20.5: ProvePath", e, 0)
		kin, e := l.ProveAncestry(n/2, n)
		is(t, "P20.5: ProveAncestry", e, 0)
		roots, paths, kins = append(roots, root), append(paths, way), append(kins, kin)
	}
	for n := uint64(1); n <= 40; n++ {
		ask(n)
		l.Append("more")
	}
	then := [][]string{slices.Clone(paths), slices.Clone(kins)}
	thenRoots := slices.Clone(roots)
	roots, paths, kins = nil, nil, nil
	for n := uint64(1); n <= 40; n++ {
		ask(n)
	}
	if !slices.Equal(roots, thenRoots) || !slices.Equal(paths, then[0]) || !slices.Equal(kins, then[1]) {
		t.Error("P20.5: a proof of an earlier size is not that of the time when there were so many")
	}
}

func TestPowerThatIsOut(t *testing.T) {
	l, d := made(t, 16, "a", "b", "c")
	was := []answer[string]{answered(l.ProvePath(3, 1)), answered(l.ProveBatch(2, 0)), answered(l.ProveAncestry(1, 3))}
	root := answered(l.Root(3))
	d.Lay(api.Fate{At: 1, Kind: 4})
	d.Sync("other")
	is(t, "P20.4: Get", answered(l.Get(0)), answer[string]{"", 170})
	is(t, "P20.4: Get of none", answered(l.Get(3)), answer[string]{"", 31})
	is(t, "P20.2: Append", answered(l.Append("d", "e")), answer[int]{0, 170})
	is(t, "P20.2: Append again", answered(l.Append("d")), answer[int]{0, 191})
	is(t, "P20.3: Root", answered(l.Root(3)), root)
	is(t, "P20.3: Root", root.e, 0)
	is(t, "P20.3: Size", answered(l.Size()), answer[uint64]{3, 0})
	now := []answer[string]{answered(l.ProvePath(3, 1)), answered(l.ProveBatch(2, 0)), answered(l.ProveAncestry(1, 3))}
	if !slices.Equal(now, was) || now[0].e+now[1].e+now[2].e != 0 {
		t.Errorf("P20.5: without power the proofs are %v, were %v", now, was)
	}
	is(t, "P20.6: Close", l.Close(), 0)
	refused(t, "P20.1: Open without power", d, 16, 170)
}

func TestOrderOfAncestry(t *testing.T) {
	l, _ := made(t, 8, "a", "b", "c", "d")
	is(t, "P20.5: ProveAncestry(5, 3)", answered(l.ProveAncestry(5, 3)), answer[string]{"", 41})
	is(t, "P20.5: ProveAncestry(5, 9)", answered(l.ProveAncestry(5, 9)), answer[string]{"", 30})
}

// The whole's examples 8 and 9.

func TestExampleEight(t *testing.T) {
	l, d := made(t, 32, "a", "b")
	d.Lay(api.Fate{At: 6, Kind: 1})
	is(t, "example 8: Append", answered(l.Append("c")), answer[int]{0, 171})
	is(t, "example 8: Size", answered(l.Size()), answer[uint64]{2, 0})
	is(t, "example 8: a second Append", answered(l.Append("d")), answer[int]{0, 191})
	same(t, "example 8", opened(t, "example 8", 32, d), []string{"a", "b", "c"})
	for _, keep := range keeps() {
		same(t, "example 8", reopened(t, "example 8", 32, d.After(keep)), []string{"a", "b", "c"})
	}
}

func TestExampleNine(t *testing.T) {
	for _, x := range []struct {
		keep  []bool
		items []string
		left  int // bytes of the marks' file that stay
		acts  int // of the next Open
	}{
		{[]bool{true, true}, []string{"a", "b", "c"}, 3 * markLen, 3},
		{[]bool{true, false}, []string{"a", "b"}, 3 * markLen, 6}, // the items and the nodes behind are cut too
		{[]bool{false, true}, []string{"a", "b"}, 2 * markLen, 5},
		{[]bool{false, false}, []string{"a", "b"}, 2 * markLen, 5},
		{nil, []string{"a", "b"}, 2 * markLen, 5},
	} {
		l, d := made(t, 32, "a", "b")
		d.Lay(api.Fate{At: 6, Kind: 4, Keep: x.keep})
		is(t, "example 9: Append", answered(l.Append("c")), answer[int]{0, 170})
		is(t, "example 9: how long the marks are", len(filesOf(d.Files()).marks), x.left)
		e := diskOf(t, great, d.Files())
		same(t, "example 9", opened(t, "example 9", 32, e), x.items)
		is(t, "example 9: Acts of Open", e.Acts(), x.acts)
		is(t, "example 9: how long the marks are behind Open", e.Size("marks"), len(x.items)*markLen)
	}
}
