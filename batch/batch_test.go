package batch_test

import (
	"cmp"
	"crypto/sha256"
	"encoding/binary"
	"encoding/hex"
	"fmt"
	"math"
	"math/bits"
	"slices"
	"strconv"
	"strings"
	"testing"
	"time"

	"massif/api"
	"massif/batch"
	"massif/forest"
	"massif/hash"
	"massif/path"
	"massif/plain"
)

// The document's numbers of MaxItem, MaxItems and MaxLeaves.
const (
	longest = 1 << 20
	most    = 1 << 16
	leaves  = 1 << 40
)

// chance gives numbers by a rule, the same ones in every run.
type chance uint64

func (c *chance) next() uint64 {
	*c = *c*6364136223846793005 + 1442695040888963407
	return uint64(*c)>>32 ^ uint64(*c)<<32
}

// below is a number from 0 to n - 1.
func (c *chance) below(n int) int {
	return int(c.next() % (1 << 32) * uint64(n) >> 32)
}

// text has n bytes of any kind, those that are no UTF-8 among them.
func (c *chance) text(n int) string {
	row := make([]byte, n)
	for i := range row {
		row[i] = byte(c.next())
	}
	return string(row)
}

// texts are count digests of strength k that no list has.
func (c *chance) texts(count, k int) []string {
	list := make([]string, count)
	for i := range list {
		list[i] = c.text(k)
	}
	return list
}

// items are n texts of up to 150 bytes, some of them nothing, some twice.
func (c *chance) items(n int) []string {
	list := make([]string, n)
	for i := range list {
		switch c.below(8) {
		case 0: // "" is an item
		case 1:
			list[i] = list[c.below(i+1)]
		default:
			list[i] = c.text(c.below(151))
		}
	}
	return list
}

// size is from 1 to MaxLeaves, of any length in bits, some of few ones, some of many.
func (c *chance) size() uint64 {
	n := c.next() >> (23 + c.below(41))
	switch c.below(4) {
	case 0:
		n &= c.next()
	case 1:
		n |= c.next() & (1<<bits.Len64(n) - 1)
	}
	return min(max(n, 1), leaves)
}

// set has at most count numbers below n, anywhere or close to one another.
func (c *chance) set(count int, n uint64) []uint64 {
	span := n
	if c.below(2) == 0 {
		span = min(n, 1+uint64(c.below(4*count)))
	}
	first := c.next() % (n - span + 1)
	list := make([]uint64, count)
	for i := range list {
		list[i] = first + c.next()%span
	}
	slices.Sort(list)
	return slices.Compact(list)
}

// byHand is a well formed batch that no forest gave, and items for it.
func (c *chance) byHand(k int, n uint64, set []uint64) (api.Proof, []string) {
	p := api.Proof{Kind: 2, K: k, Size: n, Set: set, Digests: c.texts(len(rest(n, set)), k)}
	return p, c.items(len(set))
}

// counted are n items, each unlike all others.
func counted(n int) []string {
	list := make([]string, n)
	for i := range list {
		list[i] = "item " + strconv.Itoa(i)
	}
	return list
}

// all are the numbers below n.
func all(n uint64) []uint64 {
	set := make([]uint64, n)
	for i := range set {
		set[i] = uint64(i)
	}
	return set
}

// masked is the set of a mask's bits that are 1.
func masked(mask uint64) []uint64 {
	var set []uint64
	for i := range uint64(64) {
		if mask>>i&1 == 1 {
			set = append(set, i)
		}
	}
	return set
}

// picked are the items at the numbers of a set.
func picked(list []string, set []uint64) []string {
	items := make([]string, len(set))
	for at, i := range set {
		items[at] = list[i]
	}
	return items
}

// digest is the first k bytes of the library's sum of a text.
func digest(k int, text string) string {
	sum := sha256.Sum256([]byte(text))
	return string(sum[:k])
}

func leaf(k int, item string) string { return digest(k, "\x00"+item) }

func node(k int, a, b string) string { return digest(k, "\x01"+a+b) }

func first(b api.Block) uint64 { return b.K << b.H }

func end(b api.Block) uint64 { return (b.K + 1) << b.H }

// within tells whether a block lies in another, or is it.
func within(b, whole api.Block) bool { return first(whole) <= first(b) && end(b) <= end(whole) }

// free tells whether no number of a set is one of a block's.
func free(b api.Block, set []uint64) bool {
	return !slices.ContainsFunc(set, func(i uint64) bool { return first(b) <= i && i < end(b) })
}

// mountains of n, as DOC.md's section 'Words' says it.
func mountains(n uint64) []api.Block {
	var list []api.Block
	at := uint64(0)
	for h := 63; h >= 0; h-- {
		if n>>h&1 == 1 {
			list = append(list, api.Block{H: h, K: at >> h})
			at += 1 << h
		}
	}
	return list
}

// largest are the blocks of a Rest, found by trying every block.
func largest(n uint64, set []uint64) []api.Block {
	var frees []api.Block
	for h := 0; n>>h > 0; h++ {
		for k := range n >> h {
			b := api.Block{H: h, K: k}
			inOne := slices.ContainsFunc(mountains(n), func(m api.Block) bool { return within(b, m) })
			if inOne && free(b, set) {
				frees = append(frees, b)
			}
		}
	}
	list := slices.DeleteFunc(slices.Clone(frees), func(b api.Block) bool {
		return slices.ContainsFunc(frees, func(whole api.Block) bool { return whole != b && within(b, whole) })
	})
	slices.SortFunc(list, func(a, b api.Block) int { return cmp.Compare(first(a), first(b)) })
	return list
}

// rest are the same blocks, found from the mountains downwards: sizes that no list has are soon gone through.
func rest(n uint64, set []uint64) []api.Block {
	var list []api.Block
	for _, m := range mountains(n) {
		own := slices.DeleteFunc(slices.Clone(set), func(i uint64) bool { return i < first(m) || i >= end(m) })
		list = append(list, freeOf(m, own)...)
	}
	return list
}

func freeOf(b api.Block, own []uint64) []api.Block {
	if len(own) == 0 {
		return []api.Block{b}
	}
	if b.H == 0 {
		return nil
	}
	left, right := api.Block{H: b.H - 1, K: 2 * b.K}, api.Block{H: b.H - 1, K: 2*b.K + 1}
	at := 0
	for at < len(own) && own[at] < first(right) {
		at++
	}
	return append(freeOf(left, own[:at]), freeOf(right, own[at:])...)
}

// texts are all that is hashed from the items to the root that a proof leads to, the root's last: from the lowest blocks up, two and two.
func texts(p api.Proof, items []string) []string {
	known := map[api.Block]string{}
	var list []string
	hashed := func(b api.Block, text string) {
		list = append(list, text)
		known[b] = digest(p.K, text)
	}
	for at, b := range rest(p.Size, p.Set) {
		known[b] = p.Digests[at]
	}
	row := p.Set // the blocks of height h that have a number
	for at, i := range p.Set {
		hashed(api.Block{H: 0, K: i}, "\x00"+items[at])
	}
	tops := mountains(p.Size)
	for h := 0; len(row) > 0; h++ {
		var above []uint64
		for _, k := range row {
			if slices.Contains(tops, api.Block{H: h, K: k}) || len(above) > 0 && above[len(above)-1] == k/2 {
				continue
			}
			left, okLeft := known[api.Block{H: h, K: k &^ 1}]
			right, okRight := known[api.Block{H: h, K: k | 1}]
			if !okLeft || !okRight {
				panic("no digest beside a block")
			}
			hashed(api.Block{H: h + 1, K: k / 2}, "\x01"+left+right)
			above = append(above, k/2)
		}
		row = above
	}
	bag := ""
	for at := len(tops) - 1; at >= 0; at-- {
		peak, ok := known[tops[at]]
		if !ok {
			panic("no peak")
		}
		if at == len(tops)-1 {
			bag = peak
			continue
		}
		list = append(list, "\x02"+peak+bag)
		bag = digest(p.K, list[len(list)-1])
	}
	return append(list, string(binary.BigEndian.AppendUint64([]byte{3}, p.Size))+bag)
}

// led is the commitment to which a proof leads.
func led(p api.Proof, items []string) api.Root {
	list := texts(p, items)
	return api.Root{Size: p.Size, Digest: digest(p.K, list[len(list)-1])}
}

// model has the digests of all blocks of a list.
type model struct {
	k       int
	list    []string
	digests map[api.Block]string
}

func modelOf(k int, list []string) *model {
	m := &model{k: k, list: list, digests: map[api.Block]string{}}
	for _, b := range mountains(uint64(len(list))) {
		m.tree(b)
	}
	return m
}

func (m *model) tree(b api.Block) string {
	d := ""
	if b.H == 0 {
		d = leaf(m.k, m.list[b.K])
	} else {
		left := m.tree(api.Block{H: b.H - 1, K: 2 * b.K})
		d = node(m.k, left, m.tree(api.Block{H: b.H - 1, K: 2*b.K + 1}))
	}
	m.digests[b] = d
	return d
}

// batch is the proof of a set within the first n of the list.
func (m *model) batch(n uint64, set []uint64) api.Proof {
	return m.over(n, set, rest(n, set))
}

// over is the proof that has these blocks' digests.
func (m *model) over(n uint64, set []uint64, blocks []api.Block) api.Proof {
	p := api.Proof{Kind: 2, K: m.k, Size: n, Set: set}
	for _, b := range blocks {
		p.Digests = append(p.Digests, m.digests[b])
	}
	return p
}

// numbers are at both sides of each power of two.
func numbers() []uint64 {
	list := []uint64{0, math.MaxUint64}
	for h := range 64 {
		list = append(list, 1<<h-1, 1<<h, 1<<h+1)
	}
	return list
}

// sets are many of those within n: few numbers and many, at both ends and anywhere.
func sets(c *chance, n uint64) [][]uint64 {
	list := [][]uint64{{0}, {n - 1}, {n / 2}, all(n)}
	if n > 1 {
		list = append(list, []uint64{0, n - 1}, all(n)[1:], all(n-1), slices.Delete(all(n), int(n/2), int(n/2)+1))
	}
	for _, step := range []uint64{2, 3, 4, 16, 17} {
		for start := range min(n, 2) {
			var set []uint64
			for i := start; i < n; i += step {
				set = append(set, i)
			}
			list = append(list, set)
		}
	}
	for _, count := range []int{1, 2, 3, 5, 9, 20, 60} {
		list = append(list, c.set(count, n), c.set(count, n))
	}
	return list
}

// shown is a proof as text, its digests in hexadecimal digits.
func shown(p api.Proof) string {
	return fmt.Sprintf("{Kind %d, K %d, Old %d, Size %d, Set %d, Digests %x}", p.Kind, p.K, p.Old, p.Size, p.Set, p.Digests)
}

// same tells whether two proofs are alike in all fields.
func same(p, q api.Proof) bool {
	return p.Kind == q.Kind && p.K == q.K && p.Old == q.Old && p.Size == q.Size && slices.Equal(p.Set, q.Set) && slices.Equal(p.Digests, q.Digests)
}

// copied is a proof with lists of its own.
func copied(p api.Proof) api.Proof {
	p.Set, p.Digests = slices.Clone(p.Set), slices.Clone(p.Digests)
	return p
}

// of is a forest of a list.
func of(t *testing.T, k int, list []string) *forest.Forest {
	t.Helper()
	f, e := forest.New(k)
	if f == nil || e != api.OK {
		t.Fatalf("New(%d) = %v, %d", k, f, e)
	}
	for _, item := range list {
		if _, e := f.Append(item); e != api.OK {
			t.Fatalf("Append of %d bytes = %d", len(item), e)
		}
	}
	return f
}

// proved is what Prove answers, if it has no error.
func proved(t *testing.T, f *forest.Forest, n uint64, set []uint64) api.Proof {
	t.Helper()
	p, e := batch.Prove(f, n, set)
	if e != api.OK {
		t.Fatalf("12.1: Prove(%d, %d) of %d items = %d", n, set, f.Size(), e)
	}
	return p
}

func proves(t *testing.T, promise string, f *forest.Forest, n uint64, set []uint64, want api.Proof) {
	t.Helper()
	if p := proved(t, f, n, set); !same(p, want) {
		t.Fatalf("%s: Prove(%d, %d) of %d items = %s, want %s", promise, n, set, f.Size(), shown(p), shown(want))
	}
}

func provesNot(t *testing.T, f *forest.Forest, n uint64, set []uint64, want api.Errno) {
	t.Helper()
	if p, e := batch.Prove(f, n, set); !same(p, api.Proof{}) || e != want {
		t.Fatalf("12.1: Prove(%d, %d) = %s, %d, want %d", n, set, shown(p), e, want)
	}
}

func leads(t *testing.T, promise string, p api.Proof, items []string, want api.Root) {
	t.Helper()
	if r, e := batch.Root(p, items); r != want || e != api.OK {
		t.Fatalf("%s: Root of %s and %d items = %d, %x, %d, want %d, %x", promise, shown(p), len(items), r.Size, r.Digest, e, want.Size, want.Digest)
	}
}

func leadsNowhere(t *testing.T, p api.Proof, items []string, want api.Errno) {
	t.Helper()
	if r, e := batch.Root(p, items); r != (api.Root{}) || e != want {
		t.Fatalf("12.2: Root of %s and %d items = %d, %x, %d, want %d", shown(p), len(items), r.Size, r.Digest, e, want)
	}
}

// spoil writes over a list and all the room behind it, and grows it.
func spoil[T any](list []T, bad T) {
	whole := list[:cap(list)]
	for i := range whole {
		whole[i] = bad
	}
	_ = append(list, bad)
}

func TestExamples(t *testing.T) {
	a, b, c := leaf(32, "a"), leaf(32, "b"), leaf(32, "c")
	ab := node(32, a, b)
	list := []string{"a", "b", "c"}
	f := of(t, 32, list)
	for _, x := range []struct {
		n    uint64
		set  []uint64
		want []string
	}{
		{3, []uint64{0, 2}, []string{b}},
		{3, []uint64{0, 1, 2}, nil},
		{3, []uint64{0}, []string{b, c}},
		{3, []uint64{1}, []string{a, c}},
		{3, []uint64{2}, []string{ab}},
		{3, []uint64{0, 1}, []string{c}},
		{3, []uint64{1, 2}, []string{a}},
		{2, []uint64{1}, []string{a}},
		{2, []uint64{0, 1}, nil},
		{1, []uint64{0}, nil},
	} {
		proves(t, "12.1", f, x.n, x.set, api.Proof{Kind: api.KindBatch, K: 32, Size: x.n, Set: x.set, Digests: x.want})
		root, _ := f.Root(x.n)
		leads(t, "12.3", proved(t, f, x.n, x.set), picked(list, x.set), root)
	}
	leadsNowhere(t, proved(t, f, 3, []uint64{0, 2}), []string{"a"}, 150)
	provesNot(t, f, 3, []uint64{2, 0}, 40)
	provesNot(t, f, 3, []uint64{3}, 31)
	provesNot(t, f, 4, []uint64{0}, 30)
	provesNot(t, f, 2, []uint64{2}, 31)
	provesNot(t, nil, 3, []uint64{0}, 70)
}

func TestHardPlaces(t *testing.T) {
	c := chance(120)
	for _, size := range []int{0, 1, 5} {
		f := of(t, 32, counted(size))
		for _, set := range [][]uint64{nil, {}, {5, 3}, {0, 0}} {
			provesNot(t, f, 0, set, api.ErrSet)
		}
		for _, set := range [][]uint64{{0}, {1}, {0, 1}, {math.MaxUint64}} {
			provesNot(t, f, 0, set, api.ErrIndex)
		}
	}
	for _, i := range []uint64{0, 1, leaves / 2, leaves - 1} {
		for digests := range 82 {
			p := api.Proof{Kind: 2, K: 32, Size: leaves, Set: []uint64{i}, Digests: c.texts(digests, 32)}
			if digests == 40 {
				leads(t, "12.2", p, []string{"item"}, led(p, []string{"item"}))
			} else {
				leadsNowhere(t, p, []string{"item"}, api.ErrProof)
			}
		}
	}
}

// By sha256sum: 01 and the sums of 00 61 and 00 62; 02, that and the sum of 00 63; 03, the size 3 and that.
func TestKnownRoot(t *testing.T) {
	want, err := hex.DecodeString("6356b7c28e03afe7a9f1ab896b8df936d1920a4e168887259c419b9c452c8e92")
	if err != nil {
		t.Fatal(err)
	}
	list := []string{"a", "b", "c"}
	f := of(t, 32, list)
	for mask := uint64(1); mask < 8; mask++ {
		set := masked(mask)
		leads(t, "12.3", proved(t, f, 3, set), picked(list, set), api.Root{Size: 3, Digest: string(want)})
	}
}

// All sets within all sizes of a short list: the largest blocks by trying every one, their digests by package plain.
func TestAllSetsOfFewItems(t *testing.T) {
	c := chance(121)
	for _, k := range []int{1, 2, 17, 32} {
		list := c.items(9)
		f, m := of(t, k, list), modelOf(k, list)
		for n := uint64(1); n <= 9; n++ {
			root, e := plain.Root(k, list, n)
			if e != api.OK {
				t.Fatal(e)
			}
			for mask := uint64(1); mask < 1<<n; mask++ {
				set := masked(mask)
				p := proved(t, f, n, set)
				if want := m.over(n, set, largest(n, set)); !same(p, want) {
					t.Fatalf("0.5: Prove(%d, %d) = %s, want %s", n, set, shown(p), shown(want))
				}
				for at, b := range largest(n, set) {
					if d, ok := plain.Tree(k, list[:n], b); !ok || d != p.Digests[at] {
						t.Fatalf("12.1: Prove(%d, %d) has %x at %d, want %x", n, set, p.Digests[at], at, d)
					}
				}
				leads(t, "12.3", p, picked(list, set), root)
			}
		}
	}
}

func TestManySets(t *testing.T) {
	c := chance(122)
	for _, x := range []struct {
		k int
		n []uint64
	}{
		{32, []uint64{10, 15, 16, 17, 31, 32, 33, 63, 64, 65, 100, 127, 128, 129, 200, 255, 256, 257, 299, 300}},
		{1, []uint64{12, 64, 85, 170, 299}},
		{3, []uint64{11, 63, 150, 256}},
		{31, []uint64{13, 65, 191, 300}},
	} {
		list := c.items(300)
		f, m := of(t, x.k, list), modelOf(x.k, list)
		for _, n := range x.n {
			root, _ := f.Root(n)
			for _, set := range sets(&c, n) {
				p := proved(t, f, n, set)
				if want := m.batch(n, set); !same(p, want) {
					t.Fatalf("12.1: Prove(%d, %d) = %s, want %s", n, set, shown(p), shown(want))
				}
				leads(t, "12.3", p, picked(list, set), root)
			}
		}
	}
}

// The two ways in which these tests find a Rest have the same blocks.
func TestRestsOfTheTests(t *testing.T) {
	c := chance(123)
	for n := uint64(1); n <= 40; n++ {
		for _, set := range sets(&c, n) {
			if !slices.Equal(rest(n, set), largest(n, set)) {
				t.Fatalf("the rest of %d within %d: %v and %v", set, n, rest(n, set), largest(n, set))
			}
		}
	}
}

func TestEveryStrength(t *testing.T) {
	c := chance(124)
	list := c.items(45)
	for k := 1; k <= 32; k++ {
		f, m := of(t, k, list), modelOf(k, list)
		for _, n := range []uint64{1, 2, 3, 7, 8, 31, 32, 33, 44, 45} {
			root, e := plain.Root(k, list, n)
			if e != api.OK {
				t.Fatal(e)
			}
			for _, set := range sets(&c, n) {
				proves(t, "12.1", f, n, set, m.batch(n, set))
				leads(t, "12.3", proved(t, f, n, set), picked(list, set), root)
			}
		}
	}
}

// fault is the first error that applies, by the chapter's words.
func fault(size, n uint64, set []uint64) api.Errno {
	if n > size {
		return api.ErrSize
	}
	if len(set) == 0 {
		return api.ErrSet
	}
	for at := 1; at < len(set); at++ {
		if set[at] <= set[at-1] {
			return api.ErrSet
		}
	}
	if set[len(set)-1] >= n {
		return api.ErrIndex
	}
	return api.OK
}

// Which error comes first, at the ends of the size and of the set's numbers.
func TestErrorsOfProve(t *testing.T) {
	seen := map[api.Errno]int{}
	for _, size := range []uint64{0, 1, 2, 3, 7, 8, 64, 100} {
		list := counted(int(size))
		f, m := of(t, 3, list), modelOf(3, list)
		for _, n := range append(numbers(), size, size+1, size+2, size/2) {
			many := [][]uint64{nil, {}}
			for _, i := range []uint64{0, 1, n / 2, n - 2, n - 1, n, n + 1, size, math.MaxUint64, 1 << 32, 1<<63 + 1} {
				many = append(many, []uint64{i})
				for _, j := range []uint64{0, 1, i - 1, i, i + 1, n - 1, n, n + 1, math.MaxUint64} {
					many = append(many, []uint64{i, j}, []uint64{0, i, j}, []uint64{i, j, math.MaxUint64}, []uint64{i, j, j}, []uint64{0, 1, i, j, 2})
				}
			}
			for _, set := range many {
				want := fault(size, n, set)
				seen[want]++
				if want == api.OK {
					proves(t, "12.1", f, n, set, m.batch(n, set))
				} else {
					provesNot(t, f, n, set, want)
				}
				provesNot(t, nil, n, set, api.ErrStrength)
			}
		}
	}
	if len(seen) != 4 {
		t.Errorf("not all errors came: %v", seen)
	}
}

// A number out of its order is found at each place of a long set, be the last one below n or not.
func TestSetsOutOfOrder(t *testing.T) {
	f := of(t, 5, counted(200))
	for at := 1; at < 100; at++ {
		for _, n := range []uint64{0, 1, 50, 150, 200} {
			twice, back := all(100), all(100)
			twice[at] = twice[at-1]
			provesNot(t, f, n, twice, api.ErrSet)
			back[at-1], back[at] = back[at], back[at-1]
			provesNot(t, f, n, back, api.ErrSet)
			back = all(100)
			back[at-1] = math.MaxUint64
			provesNot(t, f, n, back, api.ErrSet)
		}
	}
	for _, n := range []uint64{0, 1, 50, 99} {
		provesNot(t, f, n, all(100), api.ErrIndex)
		provesNot(t, f, 201, all(100), api.ErrSize)
	}
}

// A forest that New did not make has no items: no set is within it.
func TestForestWithoutStrength(t *testing.T) {
	f := new(forest.Forest)
	provesNot(t, f, 0, nil, api.ErrSet)
	provesNot(t, f, 0, []uint64{0}, api.ErrIndex)
	provesNot(t, f, 1, []uint64{0}, api.ErrSize)
}

func TestSetOfAllNumbers(t *testing.T) {
	c := chance(125)
	list := c.items(300)
	f := of(t, 32, list)
	for n := uint64(1); n <= 300; n++ {
		p := proved(t, f, n, all(n))
		if len(p.Digests) != 0 {
			t.Fatalf("12.1: a set of all %d numbers has %d digests", n, len(p.Digests))
		}
		root, _ := plain.Root(32, list, n)
		leads(t, "12.3", p, list[:n], root)
		leads(t, "12.3", api.Proof{Kind: 2, K: 32, Size: n, Set: all(n), Digests: []string{}}, list[:n], root)
	}
}

// Of unlike items each digest tells its block: none has a number of the set, none comes twice, all others are there, and there are not too many.
func TestHowManyDigests(t *testing.T) {
	c := chance(126)
	list := counted(520)
	f := of(t, 32, list)
	blocks := map[string]api.Block{}
	for b, d := range modelOf(32, list).digests {
		blocks[d] = b
	}
	for _, n := range []uint64{1, 2, 3, 5, 8, 21, 63, 64, 65, 127, 255, 256, 341, 511, 512, 513, 520} {
		for _, set := range sets(&c, n) {
			p := proved(t, f, n, set)
			high := 0
			for 1<<high < n {
				high++
			}
			if bound := len(set)*high + 64; len(p.Digests) > bound {
				t.Fatalf("12.4: Prove(%d, %d) has %d digests, more than %d", n, set, len(p.Digests), bound)
			}
			items, at := uint64(len(set)), uint64(0)
			for _, d := range p.Digests {
				b, ok := blocks[d]
				if !ok || !free(b, set) || first(b) < at || end(b) > n {
					t.Fatalf("12.4: Prove(%d, %d) has the block %v, or one twice", n, set, b)
				}
				items, at = items+end(b)-first(b), end(b)
			}
			if items != n {
				t.Fatalf("0.5: Prove(%d, %d) stands for %d items", n, set, items)
			}
		}
	}
}

func TestFullForest(t *testing.T) {
	c := chance(127)
	list := counted(most)
	f, m := of(t, 32, list), modelOf(32, list)
	for _, n := range []uint64{1, 2, 4095, 32767, 32768, 32769, 65535, 65536} {
		root, _ := f.Root(n)
		for _, set := range [][]uint64{{0}, {n - 1}, c.set(3, n), c.set(50, n), c.set(300, n)} {
			p := proved(t, f, n, set)
			if !same(p, m.batch(n, set)) {
				t.Fatalf("12.1: Prove(%d, %d) of MaxItems items = %s", n, set, shown(p))
			}
			leads(t, "12.3", p, picked(list, set), root)
		}
	}
	root, _ := f.Root(most)
	leads(t, "12.3", proved(t, f, most, all(most)), list, root)
	provesNot(t, f, most+1, []uint64{0}, api.ErrSize)
	provesNot(t, f, most, []uint64{most}, api.ErrIndex)
	provesNot(t, f, most, all(most+1), api.ErrIndex)
}

// A batch of one number has the digests of its path, in another order, and leads where the path leads.
func TestOneNumberAndItsPath(t *testing.T) {
	list := counted(80)
	f := of(t, 14, list)
	for n := uint64(1); n <= 80; n++ {
		for i := range n {
			p := proved(t, f, n, []uint64{i})
			q, _ := path.Prove(f, n, i)
			if !slices.Equal(slices.Sorted(slices.Values(p.Digests)), slices.Sorted(slices.Values(q.Digests))) {
				t.Fatalf("0.5: Prove(%d, %d) = %s, and the path %s", n, i, shown(p), shown(q))
			}
			want, _ := path.Root(q, "another item")
			leads(t, "12.2", p, []string{"another item"}, want)
		}
	}
}

// Proofs by hand, of sizes that no forest has: just one number of digests is right.
func TestAnySize(t *testing.T) {
	c := chance(128)
	for range 1200 {
		n := c.size()
		p, items := c.byHand(1+c.below(32), n, c.set(1+c.below(12), n))
		leads(t, "12.2", p, items, led(p, items))
		right := len(p.Digests)
		p.Digests = append(p.Digests, c.text(p.K))
		leadsNowhere(t, p, items, api.ErrProof)
		if right > 0 {
			p.Digests = p.Digests[:right-1]
			leadsNowhere(t, p, items, api.ErrProof)
		}
	}
}

// The greatest sizes, with numbers at both ends of each mountain.
func TestGreatSizes(t *testing.T) {
	c := chance(129)
	for _, n := range []uint64{leaves, leaves - 1, leaves - 2, leaves / 2, leaves/2 + 1, leaves - leaves/4 + 1, 1 << 32, 1<<32 + 1, 1<<32 - 1, 0x5555555555, 0xaaaaaaaaaa} {
		var ends []uint64
		for _, m := range mountains(n) {
			ends = append(ends, first(m), first(m)+1<<m.H/2, end(m)-1)
		}
		slices.Sort(ends)
		ends = slices.Compact(ends)
		many := [][]uint64{ends, {0, n - 1}, {n - 2, n - 1}, {0, 1, 2, 3}}
		for _, i := range ends {
			many = append(many, []uint64{i})
		}
		for _, set := range many {
			p, items := c.byHand(5, n, set)
			leads(t, "12.2", p, items, led(p, items))
			p.Digests = append(p.Digests, c.text(5))
			leadsNowhere(t, p, items, api.ErrProof)
			if right := len(p.Digests) - 1; right > 0 {
				p.Digests = p.Digests[:right-1]
				leadsNowhere(t, p, items, api.ErrProof)
			}
		}
	}
	p := api.Proof{Kind: 2, K: 32, Size: leaves, Set: []uint64{leaves - 1}, Digests: c.texts(40, 32)}
	d := leaf(32, "last")
	for at := 39; at >= 0; at-- {
		d = node(32, p.Digests[at], d)
	}
	leads(t, "12.2", p, []string{"last"}, api.Root{Size: leaves, Digest: hash.Root(32, leaves, []string{d})})
	p.Set[0] = 0
	d = leaf(32, "first")
	for at := range 40 {
		d = node(32, d, p.Digests[at])
	}
	leads(t, "12.2", p, []string{"first"}, api.Root{Size: leaves, Digest: hash.Root(32, leaves, []string{d})})
}

// Sets of some hundred numbers within MaxLeaves: their time hangs on them, not on the size.
func TestEndsSoon(t *testing.T) {
	c := chance(130)
	began := time.Now()
	for _, n := range []uint64{leaves, leaves - 1, 0xaaaaaaaaaa} {
		for _, count := range []int{100, 300, 700} {
			set := c.set(count, n)
			p, items := c.byHand(32, n, set)
			leads(t, "12.5", p, items, led(p, items))
			for _, digests := range [][]string{nil, p.Digests[1:], append(slices.Clone(p.Digests), p.Digests[0])} {
				q := p
				q.Digests = digests
				leadsNowhere(t, q, items, api.ErrProof)
			}
			far := append(slices.Clone(set), math.MaxUint64)
			leadsNowhere(t, api.Proof{Kind: 2, K: 32, Size: n, Set: far, Digests: p.Digests}, append(items, ""), api.ErrProof)
		}
	}
	dense := all(20000)
	p, items := c.byHand(8, leaves, dense)
	leads(t, "12.5", p, items, led(p, items))
	if took := time.Since(began); took > 2*time.Minute {
		t.Errorf("12.5: it took %v", took)
	}
}

// One proof's digests held against each size and set: the numbers alone say where they belong.
func TestOtherNumbers(t *testing.T) {
	c := chance(131)
	for digests := range 6 {
		p := api.Proof{Kind: 2, K: 32, Digests: c.texts(digests, 32)}
		roots := map[string]int{}
		for n := range uint64(9) {
			for mask := uint64(1); mask < 1<<9; mask++ {
				p.Size, p.Set = n, masked(mask)
				items := counted(len(p.Set))
				if mask>>n > 0 || len(rest(n, p.Set)) != digests {
					leadsNowhere(t, p, items, api.ErrProof)
					continue
				}
				want := led(p, items)
				leads(t, "12.2", p, items, want)
				if roots[want.Digest]++; roots[want.Digest] > 1 {
					t.Fatalf("12.2: two sizes or sets lead to one root")
				}
			}
		}
	}
}

// wrong are the ways in which a batch's numbers are not well formed, by their names.
func wrong(p api.Proof) map[string]func(*api.Proof) {
	list := map[string]func(*api.Proof){}
	for _, kind := range []int{0, 1, 3, 4, 5, -1, -2, 1<<8 + 2, 1<<16 + 2, 1<<32 + 2, -1<<32 + 2, math.MinInt, math.MinInt + 2, math.MaxInt} {
		list["Kind "+strconv.Itoa(kind)] = func(q *api.Proof) { q.Kind = kind }
	}
	for _, k := range []int{0, -1, -p.K, 33, 34, 64, 255, 256, 256 + p.K, 1<<16 + p.K, 1<<32 + p.K, math.MinInt, math.MinInt + p.K, math.MaxInt, math.MaxInt32} {
		list["K "+strconv.Itoa(k)] = func(q *api.Proof) { q.K = k }
	}
	last := len(p.Set) - 1
	for _, n := range []uint64{0, p.Set[last], leaves + 1, leaves + 2, 2 * leaves, leaves + p.Size, 1<<41 + p.Size, 1<<48 + p.Size, 1<<63 + p.Size, 1 << 63, math.MaxUint64, math.MaxUint64 - 1} {
		list["Size "+strconv.FormatUint(n, 10)] = func(q *api.Proof) { q.Size = n }
	}
	for _, old := range []uint64{1, 2, p.Size, p.Size + 1, 1 << 32, leaves, leaves + 1, math.MaxUint64} {
		list["Old "+strconv.FormatUint(old, 10)] = func(q *api.Proof) { q.Old = old }
	}
	for _, i := range []uint64{p.Size, p.Size + 1, p.Size + p.Set[last], 2 * leaves, 1<<41 + p.Set[last], 1<<63 + p.Set[last], math.MaxUint64} {
		list["the last number "+strconv.FormatUint(i, 10)] = func(q *api.Proof) { q.Set[last] = i }
	}
	list["no Set"] = func(q *api.Proof) { q.Set = nil }
	list["a Set without room"] = func(q *api.Proof) { q.Set = []uint64{} }
	for at, i := range p.Set {
		list["a number twice at "+strconv.Itoa(at)] = func(q *api.Proof) { q.Set = slices.Insert(q.Set, at, i) }
		if at > 0 {
			list["a number as the one ahead at "+strconv.Itoa(at)] = func(q *api.Proof) { q.Set[at] = q.Set[at-1] }
			list["two changed about at "+strconv.Itoa(at)] = func(q *api.Proof) { q.Set[at-1], q.Set[at] = q.Set[at], q.Set[at-1] }
			list["the greatest number ahead of "+strconv.Itoa(at)] = func(q *api.Proof) { q.Set[at-1] = math.MaxUint64 }
		}
	}
	return list
}

// short are the ways in which a batch's digests are not as its numbers ask.
func short(p api.Proof) map[string]func(*api.Proof) {
	one := strings.Repeat("d", p.K)
	list := map[string]func(*api.Proof){
		"one more at the end":       func(q *api.Proof) { q.Digests = append(q.Digests, one) },
		"one more at the beginning": func(q *api.Proof) { q.Digests = append([]string{one}, q.Digests...) },
		"nothing more at the end":   func(q *api.Proof) { q.Digests = append(q.Digests, "") },
		"twice as many and one":     func(q *api.Proof) { q.Digests = append(slices.Concat(q.Digests, q.Digests), one) },
		"a thousand":                func(q *api.Proof) { q.Digests = slices.Repeat([]string{one}, 1000) },
	}
	count := len(p.Digests)
	if count == 0 {
		return list
	}
	list["none"] = func(q *api.Proof) { q.Digests = nil }
	list["the first less"] = func(q *api.Proof) { q.Digests = q.Digests[1:] }
	list["the last less"] = func(q *api.Proof) { q.Digests = q.Digests[:count-1] }
	list["all of another length"] = func(q *api.Proof) { q.Digests = slices.Repeat([]string{one + "d"}, count) }
	list["all in one"] = func(q *api.Proof) { q.Digests = []string{strings.Join(q.Digests, "") + one} }
	list["another strength"] = func(q *api.Proof) { q.K = q.K%32 + 1 }
	for _, at := range []int{0, count / 2, count - 1} {
		for name, d := range map[string]string{"nothing": "", "shorter": one[1:], "longer": one + "d", "twice": one + one, "256 more": one + strings.Repeat("d", 256)} {
			list[name+" at "+strconv.Itoa(at)] = func(q *api.Proof) { q.Digests[at] = d }
		}
	}
	if count > 1 {
		list["one byte moved"] = func(q *api.Proof) { q.Digests[0], q.Digests[1] = one+"d", one[1:] }
	}
	return list
}

// Each wrong way alone is enough, and comes ahead of an item that is too long, with as many items as the numbers or not.
func TestNotWellFormed(t *testing.T) {
	c := chance(132)
	long := strings.Repeat("x", longest+1)
	for _, n := range []uint64{1, 2, 3, 4, 7, 8, 21, 64, 65, 1 << 33, leaves - 1, leaves} {
		for _, set := range [][]uint64{{n / 2}, {n - 1}, c.set(3, n), c.set(9, n), all(min(n, 8))} {
			for _, k := range []int{1, 31, 32} {
				p, items := c.byHand(k, n, set)
				want := led(p, items)
				leads(t, "12.2", p, items, want)
				for _, ways := range []map[string]func(*api.Proof){wrong(p), short(p)} {
					for name, change := range ways {
						q := copied(p)
						change(&q)
						right := slices.Repeat([]string{"item"}, len(q.Set))
						for _, items := range [][]string{items, right, slices.Repeat([]string{long}, len(q.Set)), append(right, long), {long}, nil} {
							if r, e := batch.Root(q, items); r != (api.Root{}) || e != api.ErrProof {
								t.Fatalf("12.2: Root of a batch of %d within %d, strength %d, and %d items, with %s = %d, %x, %d", set, n, k, len(items), name, r.Size, r.Digest, e)
							}
						}
					}
				}
				leads(t, "12.2", p, items, want)
			}
		}
	}
}

// With a Size of 0 no batch is well formed, whatever else it has.
func TestNoItems(t *testing.T) {
	for _, set := range [][]uint64{nil, {}, {0}, {math.MaxUint64}, {0, 0}, {0, 1}} {
		for _, digests := range [][]string{nil, {}, {"d"}, {""}} {
			for _, items := range [][]string{nil, {}, {""}, {"", ""}} {
				leadsNowhere(t, api.Proof{Kind: 2, K: 1, Set: set, Digests: digests}, items, api.ErrProof)
			}
		}
	}
	leadsNowhere(t, api.Proof{}, nil, api.ErrProof)
	leadsNowhere(t, api.Proof{Kind: 2, K: 32}, nil, api.ErrProof)
	leadsNowhere(t, api.Proof{Kind: 2, K: 32, Size: 1, Digests: []string{leaf(32, "a")}}, nil, api.ErrProof)
}

// Proofs of the other kinds, right as such, are no batches.
func TestOtherKinds(t *testing.T) {
	one := leaf(32, "a")
	for _, p := range []api.Proof{
		{Kind: 1, K: 32, Size: 1, Set: []uint64{0}},
		{Kind: 1, K: 32, Size: 2, Set: []uint64{0}, Digests: []string{one}},
		{Kind: 3, K: 32},
		{Kind: 3, K: 32, Old: 1, Size: 1, Digests: []string{one}},
		{Kind: 3, K: 32, Size: 1, Digests: []string{one}},
	} {
		leadsNowhere(t, p, []string{"a"}, api.ErrProof)
		leadsNowhere(t, p, nil, api.ErrProof)
	}
}

// Just as many items as numbers: else ErrProof, be one of them too long or not.
func TestHowManyItems(t *testing.T) {
	c := chance(133)
	long := strings.Repeat("x", longest+1)
	for _, n := range []uint64{1, 2, 3, 8, 13, leaves} {
		for _, set := range [][]uint64{{0}, {n - 1}, c.set(5, n), all(min(n, 13))} {
			p, items := c.byHand(32, n, set)
			leads(t, "12.2", p, items, led(p, items))
			for count := range len(set) + 4 {
				if count == len(set) {
					continue
				}
				leadsNowhere(t, p, make([]string, count), api.ErrProof)
				leadsNowhere(t, p, slices.Repeat([]string{long}, count), api.ErrProof)
			}
			leadsNowhere(t, p, nil, api.ErrProof)
			leadsNowhere(t, p, append(slices.Clone(items), items[0]), api.ErrProof)
			leadsNowhere(t, p, items[1:], api.ErrProof)
			leadsNowhere(t, p, items[:len(items)-1], api.ErrProof)
		}
	}
}

// Each item's length is held against MaxItem once the proof is well formed; "" is an item.
func TestItemLengths(t *testing.T) {
	c := chance(134)
	long := strings.Repeat("x", 2*longest)
	for _, n := range []uint64{1, 2, 7, 100, leaves} {
		set := c.set(4, n)
		p, items := c.byHand(32, n, set)
		bad := copied(p)
		bad.Old = 1
		less := copied(p)
		less.Digests = append(less.Digests, strings.Repeat("d", 32))
		for at := range set {
			for _, length := range []int{0, 1, longest - 1, longest, longest + 1, longest + 2, 2 * longest} {
				now := slices.Clone(items)
				now[at] = long[:length]
				if length > longest {
					leadsNowhere(t, p, now, api.ErrItem)
				} else {
					leads(t, "12.2", p, now, led(p, now))
				}
				leadsNowhere(t, bad, now, api.ErrProof)
				leadsNowhere(t, less, now, api.ErrProof)
			}
		}
		leadsNowhere(t, p, slices.Repeat([]string{long}, len(set)), api.ErrItem)
		leads(t, "12.2", p, make([]string, len(set)), led(p, make([]string, len(set))))
	}
}

func TestLongestItems(t *testing.T) {
	list := []string{strings.Repeat("a", longest), "", strings.Repeat("\xff", longest)}
	f := of(t, 32, list)
	for n := uint64(1); n <= 3; n++ {
		root, _ := f.Root(n)
		for mask := uint64(1); mask < 1<<n; mask++ {
			set := masked(mask)
			leads(t, "12.3", proved(t, f, n, set), picked(list, set), root)
		}
	}
}

// changed are texts of the same length, each unlike d in some bit.
func changed(d string) []string {
	var list []string
	for _, at := range []int{0, len(d) / 2, len(d) - 1} {
		for _, bit := range []byte{1, 16, 128} {
			row := []byte(d)
			row[at] ^= bit
			list = append(list, string(row))
		}
	}
	return list
}

// With another digest in one place, or another item, there is another root: of 32 bytes no two texts of one digest are found here.
func TestHangsOnAll(t *testing.T) {
	c := chance(135)
	list := counted(70)
	f := of(t, 32, list)
	for _, n := range []uint64{2, 3, 7, 8, 13, 32, 33, 63, 70} {
		root, _ := f.Root(n)
		for _, set := range sets(&c, n) {
			p, items := proved(t, f, n, set), picked(list, set)
			other := func(what string, at int) {
				if r, e := batch.Root(p, items); e != api.OK || r.Digest == root.Digest || r.Size != n {
					t.Fatalf("12.2: the batch of %d within %d with another %s at %d leads to %x, %d", set, n, what, at, r.Digest, e)
				}
			}
			for at, was := range p.Digests {
				for _, d := range changed(was)[at%3*3 : at%3*3+3] {
					p.Digests[at] = d
					other("digest", at)
				}
				p.Digests[at] = was
			}
			for at, was := range items {
				for _, item := range []string{"", was + "\x00", was[1:], list[(set[at]+1)%70]} {
					items[at] = item
					other("item", at)
				}
				items[at] = was
			}
			for at := 1; at < len(p.Digests); at++ {
				p.Digests[at-1], p.Digests[at] = p.Digests[at], p.Digests[at-1]
				other("order of digests", at)
				p.Digests[at-1], p.Digests[at] = p.Digests[at], p.Digests[at-1]
			}
			for at := 1; at < len(items); at++ {
				items[at-1], items[at] = items[at], items[at-1]
				other("order of items", at)
				items[at-1], items[at] = items[at], items[at-1]
			}
			leads(t, "12.3", p, items, root)
		}
	}
}

// collide tells whether two proofs of the same numbers have unlike texts of one digest at one step.
func collide(k int, a, b []string) bool {
	for i := range a {
		if a[i] != b[i] && digest(k, a[i]) == digest(k, b[i]) {
			return true
		}
	}
	return false
}

// At small strengths another digest or item may lead to the same root: then two unlike texts have one digest.
func TestHangsOnAllOrTwoTexts(t *testing.T) {
	c := chance(136)
	alike := 0
	for _, k := range []int{1, 2} {
		for range 2500 {
			n := c.size()
			p, items := c.byHand(k, n, c.set(1+c.below(6), n))
			q, others := copied(p), slices.Clone(items)
			if at := c.below(len(p.Digests) + len(items)); at < len(p.Digests) {
				q.Digests[at] = changed(q.Digests[at])[c.below(9)]
			} else {
				others[at-len(p.Digests)] += "more"
			}
			r, e := batch.Root(p, items)
			s, e2 := batch.Root(q, others)
			if e != api.OK || e2 != api.OK {
				t.Fatalf("12.2: Root = %d, %d", e, e2)
			}
			if r == s {
				alike++
				if !collide(k, texts(p, items), texts(q, others)) {
					t.Fatalf("12.2: another digest or item of a batch of %d within %d leads to the same root, and no two texts have one digest", p.Set, n)
				}
			}
		}
	}
	if alike == 0 {
		t.Error("no two proofs lead to one root: nothing was tried")
	}
}

// A node's digest is no leaf's: an item that is a node's text leads elsewhere.
func TestNodeIsNoItem(t *testing.T) {
	a, b, c, d := leaf(32, "a"), leaf(32, "b"), leaf(32, "c"), leaf(32, "d")
	f := of(t, 32, []string{"a", "b", "c", "d"})
	root, _ := f.Root(4)
	two := api.Proof{Kind: 2, K: 32, Size: 2, Set: []uint64{0, 1}}
	for _, items := range [][]string{{a + b, c + d}, {"\x01" + a + b, "\x01" + c + d}, {node(32, a, b), node(32, c, d)}} {
		if r, e := batch.Root(two, items); e != api.OK || r.Digest == root.Digest {
			t.Errorf("12.2: nodes as items lead to %x, %d", r.Digest, e)
		}
	}
}

// A batch within the first n is the same, whatever was appended behind.
func TestLaterItemsChangeNothing(t *testing.T) {
	c := chance(137)
	list := counted(70)
	f, m := of(t, 9, nil), modelOf(9, list)
	var early []api.Proof
	for n := uint64(1); n <= 70; n++ {
		f.Append(list[n-1])
		for _, set := range sets(&c, n) {
			early = append(early, proved(t, f, n, set))
		}
	}
	for _, p := range early {
		if !same(p, m.batch(p.Size, p.Set)) {
			t.Fatalf("R3: the batch of %d within %d changed as the forest grew", p.Set, p.Size)
		}
		proves(t, "R11", f, p.Size, p.Set, p)
	}
}

// untouched holds a forest's nodes and roots against its list.
func untouched(t *testing.T, f *forest.Forest, list []string, k int) {
	t.Helper()
	if f.Size() != uint64(len(list)) || f.Strength() != k {
		t.Fatalf("R3: the forest has the size %d, the strength %d", f.Size(), f.Strength())
	}
	for b, want := range modelOf(k, list).digests {
		if d, ok := f.Digest(b); d != want || !ok {
			t.Fatalf("R3: the forest has %x, %t at (%d, %d), want %x", d, ok, b.H, b.K, want)
		}
	}
	for n := range uint64(len(list)) + 1 {
		want, _ := plain.Root(k, list, n)
		if r, e := f.Root(n); r != want || e != api.OK {
			t.Fatalf("R3: the forest's Root(%d) = %x, %d, want %x", n, r.Digest, e, want.Digest)
		}
	}
}

// Proving and checking change nothing of the forest, and asked twice they answer the same.
func TestAskedTwice(t *testing.T) {
	c := chance(138)
	list := counted(50)
	f := of(t, 12, list)
	for n := uint64(0); n <= 52; n++ {
		for _, set := range append(sets(&c, max(n, 1)), nil, []uint64{n}, []uint64{1, 0}) {
			p, e := batch.Prove(f, n, set)
			q, e2 := batch.Prove(f, n, set)
			if !same(p, q) || e != e2 {
				t.Fatalf("R11: Prove(%d, %d) twice = %s, %d and %s, %d", n, set, shown(p), e, shown(q), e2)
			}
			if e != api.OK {
				continue
			}
			r, e := batch.Root(p, picked(list, set))
			s, e2 := batch.Root(q, picked(list, set))
			if r != s || e != e2 {
				t.Fatalf("R11: Root of two like batches = %x, %d and %x, %d", r.Digest, e, s.Digest, e2)
			}
		}
	}
	untouched(t, f, list, 12)
}

// The lists of a proof are the caller's: the set that was handed in, the forest and other answers have room of their own.
func TestAnsweredListsAreTheCallers(t *testing.T) {
	c := chance(139)
	list := counted(45)
	f, m := of(t, 7, list), modelOf(7, list)
	for n := uint64(1); n <= 45; n++ {
		for _, set := range sets(&c, n) {
			want := m.batch(n, slices.Clone(set))
			room := append(slices.Clone(set), 1000, 1001, 1002)
			was := slices.Clone(room)
			one, two := proved(t, f, n, room[:len(set)]), proved(t, f, n, room[:len(set)])
			spoil(one.Digests, "written over")
			spoil(one.Set, 99)
			if !slices.Equal(room, was) {
				t.Fatalf("R3: Prove(%d, %d) has the set in its answer that was handed in, or the room behind it", n, set)
			}
			if !same(two, want) {
				t.Fatalf("R3: two answers of Prove(%d, %d) share room", n, set)
			}
			spoil(room, 98)
			if !same(two, want) {
				t.Fatalf("R3: the answer of Prove(%d, %d) changed with the set that was handed in", n, set)
			}
			spoil(two.Digests, "written over")
			spoil(two.Set, 99)
			proves(t, "R3: an answer was written over", f, n, set, want)
		}
	}
	untouched(t, f, list, 7)
}

// A set that is refused stays too.
func TestHandedSetStays(t *testing.T) {
	f := of(t, 32, counted(10))
	for _, set := range [][]uint64{{3, 1, 2, 0}, {1, 1, 0, 5}, {1, 2, 3, 4}, {20, 30, 40, 50}, {9, 8, 7, 6}} {
		was := slices.Clone(set)
		for count := range 5 {
			for _, n := range []uint64{0, 3, 10, 11} {
				batch.Prove(f, n, set[:count])
				batch.Prove(nil, n, set[:count])
				if !slices.Equal(set, was) {
					t.Fatalf("R3: Prove(%d, %d) changed its set to %d", n, was[:count], set)
				}
			}
		}
	}
}

// The proof and the items that are handed to Root stay as they were, and so does the room behind their lists.
func TestHandedProofStays(t *testing.T) {
	c := chance(140)
	long := strings.Repeat("x", longest+1)
	for _, n := range []uint64{1, 2, 3, 6, 7, 8, 37, 1 << 20, leaves - 1, leaves} {
		for _, own := range [][]uint64{{0}, {n - 1}, c.set(5, n), all(min(n, 6))} {
			right := len(rest(n, own))
			set := append(slices.Clone(own), 77, 78, 79)
			digests, items := c.texts(right+5, 4), append(c.items(len(own)), "more", long)
			wasSet, wasDigests, wasItems := slices.Clone(set), slices.Clone(digests), slices.Clone(items)
			for _, count := range []int{right, right + 1} { // taken, and refused
				for _, part := range [][]string{items[:len(own)], items[:len(own)+1], items[len(items)-1:]} {
					batch.Root(api.Proof{Kind: 2, K: 4, Size: n, Set: set[:len(own)], Digests: digests[:count]}, part)
					if !slices.Equal(set, wasSet) || !slices.Equal(digests, wasDigests) || !slices.Equal(items, wasItems) {
						t.Fatalf("R3: Root changed what it was handed of a batch of %d within %d, or the room behind it", own, n)
					}
				}
			}
			p := api.Proof{Kind: 2, K: 4, Size: n, Set: set[:len(own)], Digests: digests[:right]}
			want := led(p, items[:len(own)])
			r, e := batch.Root(p, items[:len(own)])
			spoil(p.Digests, "over")
			spoil(p.Set, 0)
			spoil(items, "over")
			if r != want || e != api.OK {
				t.Fatalf("R3: Root of a batch of %d within %d = %x, %d, want %x", own, n, r.Digest, e, want.Digest)
			}
			p.Set, p.Digests = own, wasDigests[:right]
			leads(t, "R3", p, wasItems[:len(own)], want)
		}
	}
}

// Forests of one strength and of others in turns: each batch is its own forest's.
func TestForestsInTurns(t *testing.T) {
	c := chance(141)
	strengths := []int{32, 32, 1, 5}
	var forests []*forest.Forest
	lists := make([][]string, len(strengths))
	for _, k := range strengths {
		forests = append(forests, of(t, k, nil))
	}
	for range 300 {
		at := c.below(len(forests))
		item := c.text(c.below(30))
		forests[at].Append(item)
		lists[at] = append(lists[at], item)
		at = c.below(len(forests))
		f, list := forests[at], lists[at]
		if len(list) == 0 {
			provesNot(t, f, 0, []uint64{0}, api.ErrIndex)
			continue
		}
		n := 1 + uint64(c.below(len(list)))
		set := c.set(1+c.below(8), n)
		p := proved(t, f, n, set)
		if !same(p, modelOf(f.Strength(), list).batch(n, set)) {
			t.Fatalf("R11: Prove(%d, %d) of one forest of several = %s", n, set, shown(p))
		}
		root, _ := f.Root(n)
		leads(t, "12.3", p, picked(list, set), root)
	}
}
