package ledger_test

import (
	"slices"
	"testing"

	"massif/api"
	"massif/disk"
	"massif/files"
	"massif/ledger"
)

// withoutPower is a disk whose power is out.
func withoutPower(t *testing.T, list []api.File) *disk.Disk {
	t.Helper()
	d := diskOf(t, great, list)
	d.Lay(api.Fate{At: 1, Kind: 4})
	is(t, "an act at which the power goes", d.Sync("items"), 170)
	return d
}

func TestErrorsOfOpen(t *testing.T) {
	good := rightly(t, 8, counted(3))
	bad := []api.File{{Name: "marks", Data: "no marker"}, {Name: "items", Data: "x"}, {Name: "nodes", Data: zeros(10)}}
	broken := []api.File{{Name: "marks", Data: zeros(63) + "\x01"}}
	for _, k := range []int{-1 << 63, -1, 0, 33, 64, 256 + 8, 1<<32 + 8, 1<<63 - 1} {
		refused(t, "P20.1: no strength", nil, k, 70)
		refused(t, "P20.1: no strength", disk.New(great), k, 70)
		for _, list := range [][]api.File{nil, good, bad, broken} {
			d := diskOf(t, great, list)
			refused(t, "P20.1: no strength", d, k, 70)
			is(t, "P20.1: Acts", d.Acts(), 0)
			refused(t, "R1: no strength and no power", withoutPower(t, list), k, 70)
		}
	}
	for _, k := range []int{1, 2, 8, 16, 31, 32} {
		refused(t, "P20.1: no disk", nil, k, 170)
		for _, list := range [][]api.File{nil, good, bad, broken} {
			refused(t, "R1: no power", withoutPower(t, list), k, 170)
		}
		d := diskOf(t, great, broken)
		refused(t, "P20.1: no marker", d, k, 190)
		is(t, "P20.1: Acts", d.Acts(), 0)
		is(t, "P20.1: Open of what stands behind no marker", len(opened(t, "P20.1", k, diskOf(t, great, bad))), 0)
	}
}

// TestOpenAtEveryStrength opens an empty disk, and what a ledger of that strength has made.
func TestOpenAtEveryStrength(t *testing.T) {
	c := chance(301)
	for k := 1; k <= 32; k++ {
		items := c.items(9)
		l, d := made(t, k)
		is(t, "P20.1: Acts of Open of an empty disk", d.Acts(), 3)
		is(t, "P20.1: Size of an empty ledger", answered(l.Size()), answer[uint64]{0, 0})
		is(t, "P20.2: Append", answered(l.Append(items...)), answer[int]{9, 0})
		sameFiles(t, "P20.2", d.Files(), rightly(t, k, items))
		same(t, "P20.1", reopened(t, "P20.1", k, d.Files()), items)
		acts := d.Acts()
		p := must(t, "P20.1", d, k)
		is(t, "P20.1: Acts of Open", d.Acts()-acts, 3)
		accepts(t, &c, "P0.4", p, k, items)
	}
}

func TestOpenAtAnotherStrength(t *testing.T) {
	for k := 1; k <= 32; k++ {
		for _, n := range []int{1, 2, 3} {
			list := rightly(t, k, counted(n))
			for other := 1; other <= 32; other++ {
				if other == k {
					continue
				}
				d := diskOf(t, great, list)
				refused(t, "P20.1: another strength", d, other, 190)
				is(t, "P20.1: Acts", d.Acts(), 0)
				sameFiles(t, "P20.1: a refused Open", d.Files(), list)
			}
		}
	}
}

// turned is a text with some bits turned in one byte.
func turned(s string, at int) string {
	row := []byte(s)
	row[at] ^= byte(1 + at%255)
	return string(row)
}

func TestOpenOfATurnedByte(t *testing.T) {
	for _, k := range []int{1, 32} {
		f := filesOf(rightly(t, k, counted(5)))
		var list []three
		for at := range f.items {
			list = append(list, three{turned(f.items, at), f.nodes, f.marks})
		}
		for at := range f.nodes {
			list = append(list, three{f.items, turned(f.nodes, at), f.marks})
		}
		for at := range f.marks {
			list = append(list, three{f.items, f.nodes, turned(f.marks, at)})
		}
		for _, bad := range list {
			d := diskOf(t, great, bad.list())
			refused(t, "P20.1: a turned byte", d, k, 190)
			is(t, "P20.1: Acts", d.Acts(), 0)
			is(t, "P20.1: the files", filesOf(d.Files()), bad)
		}
	}
}

// isForged has Open answer ErrBroken for files whose records are right though a digest is not what the items make of it; what it does to the disk is what files.Open does.
func isForged(t *testing.T, k int, list []api.File) {
	t.Helper()
	f := filesOf(list)
	for _, tail := range []string{"", "behind", zeros(64)} {
		d := diskOf(t, great, three{f.items + tail, f.nodes + tail, f.marks + tail}.list())
		twin := diskOf(t, great, d.Files())
		refused(t, "P20.1: a digest that is not what the items make of it", d, k, 190)
		_, e := files.Open(twin, k)
		is(t, "a store of these files", e, 0)
		disksAlike(t, "P20.1: what Open does to the disk", d, twin)
		sameFiles(t, "P20.1: behind Open", d.Files(), list)
	}
}

// TestOpenOfOtherDigests has each node of small lists be another one: in its first byte, in its last, or in all.
func TestOpenOfOtherDigests(t *testing.T) {
	for _, k := range []int{1, 2, 31, 32} {
		for _, n := range []int{1, 2, 3, 4, 7, 8} {
			items := counted(n)
			right := nodesIn(k, items)
			for p := range right {
				for _, other := range []string{turned(right[p], 0), turned(right[p], k-1), digest(k, "another"), leaf(k, "another")} {
					nodes := slices.Clone(right)
					nodes[p] = other
					isForged(t, k, laid(t, k, items, nodes))
				}
			}
		}
	}
}

// TestOpenOfOtherTrees has leaves, inner nodes and peaks that are not the items' own, though all that stands above them is rightly made of them.
func TestOpenOfOtherTrees(t *testing.T) {
	for _, k := range []int{2, 32} {
		items := counted(8)
		for at := range items { // the nodes of a list with another item
			others := slices.Clone(items)
			others[at] = "another"
			isForged(t, k, laid(t, k, items, nodesIn(k, others)))
		}
		isForged(t, k, laid(t, k, []string{"a", "b"}, nodesIn(k, []string{"b", "a"})))
		a, b := leaf(k, "a"), leaf(k, "b")
		isForged(t, k, laid(t, k, []string{"a", "b"}, []string{a, b, node(k, b, a)}))
		isForged(t, k, laid(t, k, []string{"a", "b"}, []string{a, b, digest(k, "\x02"+a+b)}))
		isForged(t, k, laid(t, k, []string{"a", "b"}, []string{a, b, digest(k, a+b)}))
		isForged(t, k, laid(t, k, []string{"a"}, []string{digest(k, "a")}))
		isForged(t, k, laid(t, k, []string{""}, []string{zeros(k)}))
	}
}

// TestLastItemAlone has a ledger's files, and behind them an item of somebody else's with other digests: what is not a marker's does not count.
func TestLastItemAlone(t *testing.T) {
	items := counted(4)
	right := nodesIn(16, items)
	for p := range right {
		nodes := slices.Clone(right)
		nodes[p] = digest(16, "another")
		f := filesOf(laid(t, 16, items, nodes))
		f.marks = f.marks[:3*markLen]
		if p < nodesOf(3) {
			refused(t, "P20.1: a node of which the markers speak", diskOf(t, great, f.list()), 16, 190)
		} else {
			same(t, "P20.1", reopened(t, "P20.1", 16, f.list()), items[:3])
		}
	}
}

// TestFateAheadOfOtherDigests has an act of Open fail: its error stands ahead of ErrBroken.
func TestFateAheadOfOtherDigests(t *testing.T) {
	nodes := nodesIn(8, counted(3))
	nodes[2] = "another!"
	f := filesOf(laid(t, 8, counted(3), nodes))
	for at := 1; at <= 6; at++ {
		for kind := 1; kind <= 5; kind++ {
			d := diskOf(t, great, three{f.items + "x", f.nodes + "x", f.marks + "x"}.list())
			d.Lay(api.Fate{At: at, Kind: kind})
			refused(t, "R1: a fate ahead of ErrBroken", d, 8, fateErrors()[kind])
			is(t, "P20.1: Acts", d.Acts(), at)
		}
	}
}

// TestFilesByChance changes an archive's files in any way, and opens them.
func TestFilesByChance(t *testing.T) {
	c := chance(302)
	counts := map[api.Errno]int{}
	for range 4000 {
		k := 1 + c.below(32)
		items := c.items(c.below(6))
		nodes := nodesIn(k, items)
		if len(nodes) > 0 && c.below(3) == 0 {
			nodes[c.below(len(nodes))] = c.text(k)
		}
		f := filesOf(laid(t, k, items, nodes))
		if c.below(3) == 0 {
			part := pick(&c, &f.items, &f.nodes, &f.marks)
			at := c.below(len(*part) + 1)
			*part = (*part)[:at] + c.text(c.below(70)) + (*part)[min(at+c.below(3), len(*part)):]
		}
		p := pairOf(t, great, f.list())
		e := p.open(t, "P20.1: files by chance", k)
		counts[e]++
		if e == 0 {
			p.append(t, "P20.1: files by chance", "one", "more")
		}
	}
	if counts[0] < 1000 || counts[190] < 1000 {
		t.Errorf("too few of a kind: %v", counts)
	}
}

// TestOtherFiles has files of other names lie beside: nobody looks at them.
func TestOtherFiles(t *testing.T) {
	beside := []api.File{{Name: "", Data: "none"}, {Name: "Items", Data: "x"}, {Name: "ledger", Data: zeros(64)}, {Name: "marks2", Data: zeros(128)}}
	d := diskOf(t, great, beside)
	l := must(t, "P20.1", d, 2)
	is(t, "P20.1: Acts", d.Acts(), 3)
	is(t, "P20.2: Append", answered(l.Append("a")), answer[int]{1, 0})
	for _, f := range beside {
		is(t, "P20.2: a file beside", answered(d.Read(f.Name, 0, len(f.Data))), answer[string]{f.Data, 0})
	}
	is(t, "P20.2: how many files there are", len(d.Files()), len(beside)+3)
}

// TestClosed has every call of ledgers that are none or no more.
func TestClosed(t *testing.T) {
	l, d := made(t, 8, "a", "b")
	is(t, "P20.6: Close", l.Close(), 0)
	lame, bad := made(t, 8, "a", "b")
	bad.Lay(api.Fate{At: 2, Kind: 1})
	lame.Append("c")
	is(t, "P20.6: Close of a lame ledger", lame.Close(), 0)
	out, dark := made(t, 8, "a", "b")
	dark.Lay(api.Fate{At: 2, Kind: 4})
	out.Append("c")
	is(t, "P20.6: Close without power", out.Close(), 0)
	acts := []int{d.Acts(), bad.Acts(), dark.Acts()}
	for _, x := range []*ledger.Ledger{l, lame, out, nil} {
		for range 2 {
			is(t, "P20.2: Append of nothing", answered(x.Append()), answer[int]{0, 200})
			is(t, "P20.2: Append", answered(x.Append("c", "d")), answer[int]{0, 200})
			is(t, "R1: Append of too much", answered(x.Append(overlong())), answer[int]{0, 200})
			is(t, "P20.3: Size", answered(x.Size()), answer[uint64]{0, 200})
			for _, n := range numbersAround(2) {
				is(t, "P20.3: Root", answered(x.Root(n)), answer[api.Root]{api.Root{}, 200})
				is(t, "P20.4: Get", answered(x.Get(n)), answer[string]{"", 200})
				is(t, "P20.5: ProvePath", answered(x.ProvePath(n, 0)), answer[string]{"", 200})
				is(t, "P20.5: ProvePath", answered(x.ProvePath(2, n)), answer[string]{"", 200})
				is(t, "P20.5: ProveBatch", answered(x.ProveBatch(n, 0)), answer[string]{"", 200})
				is(t, "P20.5: ProveBatch", answered(x.ProveBatch(2, n)), answer[string]{"", 200})
				is(t, "P20.5: ProveAncestry", answered(x.ProveAncestry(n, 2)), answer[string]{"", 200})
				is(t, "P20.5: ProveAncestry", answered(x.ProveAncestry(1, n)), answer[string]{"", 200})
			}
			is(t, "P20.5: ProveBatch of no number", answered(x.ProveBatch(2)), answer[string]{"", 200})
			is(t, "P20.6: Close again", x.Close(), 200)
		}
	}
	if now := []int{d.Acts(), bad.Acts(), dark.Acts()}; !slices.Equal(now, acts) {
		t.Errorf("P20.6: behind Close there were %v acts, now %v", acts, now)
	}
}

// TestCloseDoesNothing closes at any time: the disk is as before, also in what would stay and in the fate that lies.
func TestCloseDoesNothing(t *testing.T) {
	for at := 1; at <= 7; at++ {
		p := begun(t, 4, "a", "b", "c")
		p.lay(api.Fate{At: at, Kind: 1})
		p.append(t, "P20.6", "d")
		p.d.Lay(api.Fate{At: 1, Kind: 4})
		was := p.d.Files()
		is(t, "P20.6: Close", p.l.Close(), 0)
		is(t, "P20.6: Down behind Close", p.d.Down(), false)
		is(t, "P20.6: Acts behind Close", p.d.Acts(), p.twin.Acts())
		disksAlike(t, "P20.6: Close", p.d, p.twin)
		sameFiles(t, "P20.6: Close", p.d.Files(), was)
	}
}
