package ledger_test

import (
	"fmt"
	"slices"
	"strconv"
	"testing"

	"massif/api"
	"massif/disk"
	"massif/ledger"
	"massif/light"
)

// is tells a fault, if an answer is not the one that it must be.
func is[T comparable](t *testing.T, what string, got, want T) {
	t.Helper()
	if got != want {
		t.Errorf("%s: %v, want %v", what, short(fmt.Sprintf("%#v", got)), short(fmt.Sprintf("%#v", want)))
	}
}

// same tells a fault, if items are not those that they must be.
func same(t *testing.T, what string, got, want []string) {
	t.Helper()
	if !slices.Equal(got, want) {
		t.Fatalf("%s: there is %s, want %s", what, quoted(got), quoted(want))
	}
}

// quoted are items as a fault tells them.
func quoted(items []string) string {
	return strconv.Itoa(len(items)) + " items " + short(fmt.Sprintf("%q", items))
}

// sameFiles tells a fault, if files are not those that they must be.
func sameFiles(t *testing.T, what string, got, want []api.File) {
	t.Helper()
	if !slices.Equal(got, want) {
		t.Fatalf("%s: the files are %s, want %s", what, shown(got), shown(want))
	}
}

// answer is what a call answers.
type answer[T comparable] struct {
	told T
	e    api.Errno
}

func answered[T comparable](told T, e api.Errno) answer[T] {
	return answer[T]{told, e}
}

// must is the ledger that Open answers.
func must(t *testing.T, what string, d *disk.Disk, k int) *ledger.Ledger {
	t.Helper()
	l, e := ledger.Open(d, k)
	if l == nil || e != 0 {
		t.Fatalf("%s: Open: %v, %d, of %s", what, l != nil, e, shown(d.Files()))
	}
	return l
}

// made is a new ledger of a list, and its disk.
func made(t *testing.T, k int, items ...string) (*ledger.Ledger, *disk.Disk) {
	t.Helper()
	d := disk.New(great)
	l := must(t, "P20.1", d, k)
	is(t, "P20.2: Append", answered(l.Append(items...)), answer[int]{len(items), 0})
	return l, d
}

// refused has Open answer no ledger and an error.
func refused(t *testing.T, what string, d *disk.Disk, k int, e api.Errno) {
	t.Helper()
	l, got := ledger.Open(d, k)
	if l != nil || got != e {
		t.Errorf("%s: Open at strength %d: %v, %d, want %d", what, k, l != nil, got, e)
	}
}

// contents are the items that a ledger tells.
func contents(t *testing.T, what string, l *ledger.Ledger) []string {
	t.Helper()
	var items []string
	size, e := l.Size()
	is(t, what+": Size", e, 0)
	for i := range size {
		item, e := l.Get(i)
		is(t, what+": Get", e, 0)
		items = append(items, item)
	}
	return items
}

// opened is what a ledger tells that is opened over a disk without a fate; nothing is loose then, and the proofs are accepted.
func opened(t *testing.T, what string, k int, d *disk.Disk) []string {
	t.Helper()
	l := must(t, what, d, k)
	is(t, what+": how many choices there are behind Open", choicesOf(d), 0)
	items := contents(t, what, l)
	is(t, what+": Root", answered(l.Root(uint64(len(items)))), answer[api.Root]{rootOf(k, items), 0})
	return items
}

// reopened is the same over files, all synced.
func reopened(t *testing.T, what string, k int, list []api.File) []string {
	t.Helper()
	return opened(t, what, k, diskOf(t, great, list))
}

// claimsOf say of a list that its items stand at a set's numbers.
func claimsOf(items []string, set ...uint64) []api.Claim {
	var list []api.Claim
	for _, i := range set {
		list = append(list, api.Claim{Index: i, Value: items[i]})
	}
	return list
}

// accepts holds some proofs of each size of a ledger, which has these items, against its own commitments.
func accepts(t *testing.T, c *chance, what string, l *ledger.Ledger, k int, items []string) {
	t.Helper()
	for n := range len(items) + 1 {
		root, e := l.Root(uint64(n))
		is(t, what+": Root", e, 0)
		m := uint64(c.below(n + 1))
		old, _ := l.Root(m)
		proof, e := l.ProveAncestry(m, uint64(n))
		is(t, what+": ProveAncestry", e, 0)
		is(t, what+": a kin is accepted", light.Kin(k, old, root, proof), 0)
		if n == 0 {
			continue
		}
		set := c.set(n, 5)
		proof, e = l.ProveBatch(uint64(n), set...)
		is(t, what+": ProveBatch", e, 0)
		is(t, what+": a batch is accepted", light.Claims(k, root, claimsOf(items, set...), proof), 0)
		proof, e = l.ProvePath(uint64(n), set[0])
		is(t, what+": ProvePath", e, 0)
		is(t, what+": a path is accepted", light.Claims(k, root, claimsOf(items, set[0]), proof), 0)
	}
}

// pair is a ledger and the model that it is held against, each on a disk of its own; both are nil till they are opened.
type pair struct {
	d, twin *disk.Disk
	l       *ledger.Ledger
	m       *model
}

// pairOf has two disks with the same files, not opened.
func pairOf(t *testing.T, room int, list []api.File) *pair {
	t.Helper()
	return &pair{d: diskOf(t, room, list), twin: diskOf(t, room, list)}
}

// begun is a pair that is opened over what a ledger has made.
func begun(t *testing.T, k int, items ...string) *pair {
	t.Helper()
	p := pairOf(t, great, rightly(t, k, items))
	is(t, "P20.1: Open", p.open(t, "P20.1", k), 0)
	return p
}

func (p *pair) lay(f api.Fate) {
	p.d.Lay(f)
	p.twin.Lay(f)
}

// open opens both; with an error the old ones stay.
func (p *pair) open(t *testing.T, what string, k int) api.Errno {
	t.Helper()
	l, e := ledger.Open(p.d, k)
	m, want := openModel(p.twin, k)
	if e != want || (l != nil) != (e == 0) {
		t.Fatalf("%s: Open at strength %d: %v, %d, want %d; of %s", what, k, l != nil, e, want, shown(p.twin.Files()))
	}
	if e == 0 {
		p.l, p.m = l, m
	}
	p.alike(t, what+": behind Open")
	return e
}

// append appends to both.
func (p *pair) append(t *testing.T, what string, items ...string) api.Errno {
	t.Helper()
	n, e := p.l.Append(items...)
	want, wantE := p.m.append(items...)
	if n != want || e != wantE {
		t.Fatalf("%s: Append of %d items: %d, %d, want %d, %d; the ledger has %s", what, len(items), n, e, want, wantE, quoted(p.m.items))
	}
	p.alike(t, what+": behind Append")
	return e
}

// close closes both.
func (p *pair) close(t *testing.T, what string) {
	t.Helper()
	is(t, what+": Close", p.l.Close(), p.m.close())
	p.alike(t, what+": behind Close")
}

// keeps are lists of choices at which two disks are looked at.
func keeps() [][]bool {
	return [][]bool{nil, {true}, {true, false}, {false, true}, {true, true, false}, {false, false, true, false, true}}
}

// alike looks at all that the two disks and the two archives tell.
func (p *pair) alike(t *testing.T, what string) {
	t.Helper()
	disksAlike(t, what, p.d, p.twin)
	if p.l == nil {
		return
	}
	tellAlike(t, what, p.l, p.m)
	disksAlike(t, what+": behind looking", p.d, p.twin)
}

// disksAlike holds a disk against the one that it must be like.
func disksAlike(t *testing.T, what string, d, want *disk.Disk) {
	t.Helper()
	is(t, what+": Acts", d.Acts(), want.Acts())
	is(t, what+": Down", d.Down(), want.Down())
	sameFiles(t, what, d.Files(), want.Files())
	for _, keep := range keeps() {
		sameFiles(t, what+": without power", d.After(keep), want.After(keep))
	}
}

// tellAlike looks at what the ledger and the model tell: of proofs at some numbers of each size.
func tellAlike(t *testing.T, what string, l *ledger.Ledger, m *model) {
	t.Helper()
	is(t, what+": Size", answered(l.Size()), answered(m.size()))
	c := chance(len(m.items))
	for _, n := range numbersAround(len(m.items)) {
		is(t, what+": Root("+fmt.Sprint(n)+")", answered(l.Root(n)), answered(m.root(n)))
		is(t, what+": Get("+fmt.Sprint(n)+")", answered(l.Get(n)), answered(m.get(n)))
		i, set := uint64(c.below(len(m.items)+1)), c.set(len(m.items)+1, 4)
		is(t, what+": ProvePath", answered(l.ProvePath(n, i)), answered(m.path(n, i)))
		is(t, what+": ProveBatch", answered(l.ProveBatch(n, set...)), answered(m.batch(n, set...)))
		is(t, what+": ProveAncestry", answered(l.ProveAncestry(i, n)), answered(m.kin(i, n)))
	}
}

// numbersAround are all up to n, and some above.
func numbersAround(n int) []uint64 {
	var list []uint64
	for i := range uint64(n) + 1 {
		list = append(list, i)
	}
	over := uint64(n)
	return append(list, over+1, over+2, 2*over+1, over+1<<16, over+1<<32, 1<<40, 1<<40+1, over+1<<62, 1<<63, over+1<<63, greatest-1, greatest)
}

// three are the bytes of the three files.
type three struct {
	items, nodes, marks string
}

// filesOf are the three of a list.
func filesOf(list []api.File) three {
	f := three{}
	for _, x := range list {
		switch x.Name {
		case "items":
			f.items = x.Data
		case "nodes":
			f.nodes = x.Data
		case "marks":
			f.marks = x.Data
		}
	}
	return f
}

// list are the files as a disk tells them.
func (f three) list() []api.File {
	list := []api.File{{Name: "items", Data: f.items}, {Name: "marks", Data: f.marks}, {Name: "nodes", Data: f.nodes}}
	return slices.DeleteFunc(list, func(x api.File) bool { return x.Data == "" })
}

// choicesOf is how many choices the power's going takes, by chapter 17.
func choicesOf(d *disk.Disk) int {
	now, synced := filesOf(d.Files()), filesOf(d.After(nil))
	count := 0
	for _, x := range [][2]string{{now.items, synced.items}, {now.nodes, synced.nodes}, {now.marks, synced.marks}} {
		if len(x[0]) != len(x[1]) {
			count++
		}
		for from := 0; from < max(len(x[0]), len(x[1])); from += sector {
			if sectorOf(x[0], from) != sectorOf(x[1], from) {
				count++
			}
		}
	}
	return count
}

// sectorOf is a sector of a text, with zeros where it has no bytes.
func sectorOf(s string, from int) string {
	s = s[min(from, len(s)):min(from+sector, len(s))]
	return s + zeros(sector-len(s))
}

// everyKeep are all lists of n choices.
func everyKeep(n int) [][]bool {
	list := [][]bool{nil}
	for range n {
		var longer [][]bool
		for _, keep := range list {
			longer = append(longer, append(slices.Clip(keep), false), append(slices.Clip(keep), true))
		}
		list = longer
	}
	return list
}
