package kin_test

import (
	"cmp"
	"crypto/sha256"
	"encoding/binary"
	"encoding/hex"
	"fmt"
	"maps"
	"math"
	"math/bits"
	"slices"
	"strconv"
	"strings"
	"testing"
	"time"

	"massif/api"
	"massif/cover"
	"massif/forest"
	"massif/hash"
	"massif/kin"
	"massif/peaks"
	"massif/plain"
)

// The document's numbers of MaxItem, MaxItems and MaxLeaves.
const (
	longest = 1 << 20
	most    = 1 << 16
	leaves  = 1 << 40
)

// chance gives numbers by a rule, the same ones in every run.
type chance uint64

func (c *chance) next() uint64 {
	*c = *c*6364136223846793005 + 1442695040888963407
	return uint64(*c)>>32 ^ uint64(*c)<<32
}

// below is a number from 0 to n - 1.
func (c *chance) below(n int) int {
	return int(c.next() % (1 << 32) * uint64(n) >> 32)
}

// text has n bytes of any kind, those that are no UTF-8 among them.
func (c *chance) text(n int) string {
	row := make([]byte, n)
	for i := range row {
		row[i] = byte(c.next())
	}
	return string(row)
}

// texts are count digests of strength k that no list has.
func (c *chance) texts(count, k int) []string {
	list := make([]string, count)
	for i := range list {
		list[i] = c.text(k)
	}
	return list
}

// items are n texts of up to 150 bytes, some of them nothing, some twice.
func (c *chance) items(n int) []string {
	list := make([]string, n)
	for i := range list {
		switch c.below(8) {
		case 0: // "" is an item
		case 1:
			list[i] = list[c.below(i+1)]
		default:
			list[i] = c.text(c.below(151))
		}
	}
	return list
}

// size is from 0 to MaxLeaves, of any length in bits, some of few ones, some of many.
func (c *chance) size() uint64 {
	n := c.next() >> (23 + c.below(42))
	switch c.below(4) {
	case 0:
		n &= c.next()
	case 1:
		n |= c.next() & (1<<bits.Len64(n) - 1)
	}
	return min(n, leaves)
}

// beginning is from 0 to n: anywhere, close to an end, or of n's own highest bits.
func (c *chance) beginning(n uint64) uint64 {
	switch c.below(4) {
	case 0:
		return min(n, uint64(c.below(9)))
	case 1:
		return n - min(n, uint64(c.below(9)))
	case 2:
		h := c.below(41)
		return n >> h << h
	}
	return c.next() % (n + 1)
}

// byHand is a well formed kin that no forest gave.
func (c *chance) byHand(k int, m, n uint64) api.Proof {
	return api.Proof{Kind: 3, K: k, Old: m, Size: n, Digests: c.texts(len(blocks(m, n)), k)}
}

// counted are n items, each unlike all others.
func counted(n int) []string {
	list := make([]string, n)
	for i := range list {
		list[i] = "item " + strconv.Itoa(i)
	}
	return list
}

// digest is the first k bytes of the library's sum of a text.
func digest(k int, text string) string {
	sum := sha256.Sum256([]byte(text))
	return string(sum[:k])
}

func leaf(k int, item string) string { return digest(k, "\x00"+item) }

func node(k int, a, b string) string { return digest(k, "\x01"+a+b) }

func first(b api.Block) uint64 { return b.K << b.H }

func end(b api.Block) uint64 { return (b.K + 1) << b.H }

// within tells whether a block lies in another, or is it.
func within(b, whole api.Block) bool { return first(whole) <= first(b) && end(b) <= end(whole) }

func halves(b api.Block) (api.Block, api.Block) {
	return api.Block{H: b.H - 1, K: 2 * b.K}, api.Block{H: b.H - 1, K: 2*b.K + 1}
}

// mountains of n, as DOC.md's section 'Words' says it.
func mountains(n uint64) []api.Block {
	var list []api.Block
	at := uint64(0)
	for h := 63; h >= 0; h-- {
		if n>>h&1 == 1 {
			list = append(list, api.Block{H: h, K: at >> h})
			at += 1 << h
		}
	}
	return list
}

// largest is the cover of m to n within n, found by trying every block.
func largest(m, n uint64) []api.Block {
	var inside []api.Block
	for h := 0; n>>h > 0; h++ {
		for k := range n >> h {
			b := api.Block{H: h, K: k}
			inOne := slices.ContainsFunc(mountains(n), func(m api.Block) bool { return within(b, m) })
			if inOne && first(b) >= m {
				inside = append(inside, b)
			}
		}
	}
	list := slices.DeleteFunc(slices.Clone(inside), func(b api.Block) bool {
		return slices.ContainsFunc(inside, func(whole api.Block) bool { return whole != b && within(b, whole) })
	})
	slices.SortFunc(list, func(a, b api.Block) int { return cmp.Compare(first(a), first(b)) })
	return list
}

// behind is the same cover, found from the mountains downwards: sizes that no list has are soon gone through.
func behind(m, n uint64) []api.Block {
	var list []api.Block
	var down func(b api.Block)
	down = func(b api.Block) {
		if first(b) >= m {
			list = append(list, b)
		} else if end(b) > m {
			left, right := halves(b)
			down(left)
			down(right)
		}
	}
	for _, b := range mountains(n) {
		down(b)
	}
	return list
}

// blocks are those whose digests a kin of m and n has.
func blocks(m, n uint64) []api.Block { return append(mountains(m), behind(m, n)...) }

// where tells what a text is one of: its first byte, and its block (of a bag K is its number from the left).
type where struct {
	kind byte
	b    api.Block
}

// tree is what is hashed from digests or items to a root, by where it stands.
type tree struct {
	k     int
	texts map[where]string
}

func (x tree) hashed(kind byte, b api.Block, text string) string {
	x.texts[where{kind, b}] = text
	return digest(x.k, text)
}

// node is a block's digest: known says it of some blocks, of the others it is made of their halves.
func (x tree) node(b api.Block, known func(api.Block) (string, bool)) string {
	if d, ok := known(b); ok {
		return d
	}
	if b.H == 0 {
		panic("no digest of a leaf")
	}
	left, right := halves(b)
	one := x.node(left, known)
	return x.hashed(1, b, "\x01"+one+x.node(right, known))
}

// root is that of n and its mountains' digests.
func (x tree) root(n uint64, known func(api.Block) (string, bool)) api.Root {
	bag := ""
	tops := mountains(n)
	for at := len(tops) - 1; at >= 0; at-- {
		peak := x.node(tops[at], known)
		if at == len(tops)-1 {
			bag = peak
		} else {
			bag = x.hashed(2, api.Block{K: uint64(at)}, "\x02"+peak+bag)
		}
	}
	return api.Root{Size: n, Digest: x.hashed(3, api.Block{}, string(binary.BigEndian.AppendUint64([]byte{3}, n))+bag)}
}

func newTree(k int) tree { return tree{k, map[where]string{}} }

// ofList is the tree of a list, and its root.
func ofList(k int, list []string) (tree, api.Root) {
	x := newTree(k)
	r := x.root(uint64(len(list)), func(b api.Block) (string, bool) {
		if b.H > 0 {
			return "", false
		}
		return x.hashed(0, b, "\x00"+list[b.K]), true
	})
	return x, r
}

// ofProof are the trees of a proof's two sides, and their roots.
func ofProof(p api.Proof) (old, now tree, r, s api.Root) {
	given := map[api.Block]string{}
	for at, b := range blocks(p.Old, p.Size) {
		given[b] = p.Digests[at]
	}
	known := func(b api.Block) (string, bool) { d, ok := given[b]; return d, ok }
	old, now = newTree(p.K), newTree(p.K)
	r = old.root(p.Old, known)
	return old, now, r, now.root(p.Size, known)
}

// led are the commitments to which a proof leads.
func led(p api.Proof) (old, now api.Root) {
	_, _, old, now = ofProof(p)
	return old, now
}

// pair tells whether two trees have unlike texts of one digest at one place.
func pair(x, y tree) bool {
	for at, text := range x.texts {
		if other, ok := y.texts[at]; ok && other != text && digest(x.k, other) == digest(x.k, text) {
			return true
		}
	}
	return false
}

// model has the digests of all blocks of a list.
type model struct {
	k       int
	list    []string
	digests map[api.Block]string
}

func modelOf(k int, list []string) *model {
	m := &model{k: k, list: list, digests: map[api.Block]string{}}
	for _, b := range mountains(uint64(len(list))) {
		m.tree(b)
	}
	return m
}

func (m *model) tree(b api.Block) string {
	d := ""
	if b.H == 0 {
		d = leaf(m.k, m.list[b.K])
	} else {
		left, right := halves(b)
		one := m.tree(left)
		d = node(m.k, one, m.tree(right))
	}
	m.digests[b] = d
	return d
}

// kin is the proof of the first m and the first n of the list.
func (m *model) kin(old, n uint64) api.Proof { return m.over(old, n, blocks(old, n)) }

// over is the proof that has these blocks' digests.
func (m *model) over(old, n uint64, list []api.Block) api.Proof {
	p := api.Proof{Kind: 3, K: m.k, Old: old, Size: n}
	for _, b := range list {
		p.Digests = append(p.Digests, m.digests[b])
	}
	return p
}

// numbers are at both sides of each power of two.
func numbers() []uint64 {
	list := []uint64{0, math.MaxUint64}
	for h := range 64 {
		list = append(list, 1<<h-1, 1<<h, 1<<h+1)
	}
	return list
}

// shown is a proof as text, its digests in hexadecimal digits.
func shown(p api.Proof) string {
	return fmt.Sprintf("{Kind %d, K %d, Old %d, Size %d, Set %d, Digests %x}", p.Kind, p.K, p.Old, p.Size, p.Set, p.Digests)
}

// same tells whether two proofs are alike in all fields.
func same(p, q api.Proof) bool {
	return p.Kind == q.Kind && p.K == q.K && p.Old == q.Old && p.Size == q.Size && slices.Equal(p.Set, q.Set) && slices.Equal(p.Digests, q.Digests)
}

// copied is a proof with lists of its own.
func copied(p api.Proof) api.Proof {
	p.Set, p.Digests = slices.Clone(p.Set), slices.Clone(p.Digests)
	return p
}

// of is a forest of a list.
func of(t *testing.T, k int, list []string) *forest.Forest {
	t.Helper()
	f, e := forest.New(k)
	if f == nil || e != api.OK {
		t.Fatalf("New(%d) = %v, %d", k, f, e)
	}
	for _, item := range list {
		if _, e := f.Append(item); e != api.OK {
			t.Fatalf("Append of %d bytes = %d", len(item), e)
		}
	}
	return f
}

// rooted is the root of a forest's first n.
func rooted(t *testing.T, f *forest.Forest, n uint64) api.Root {
	t.Helper()
	r, e := f.Root(n)
	if e != api.OK {
		t.Fatalf("Root(%d) of %d items = %d", n, f.Size(), e)
	}
	return r
}

// proved is what Prove answers, if it has no error.
func proved(t *testing.T, f *forest.Forest, m, n uint64) api.Proof {
	t.Helper()
	p, e := kin.Prove(f, m, n)
	if e != api.OK {
		t.Fatalf("13.1: Prove(%d, %d) of %d items = %d", m, n, f.Size(), e)
	}
	return p
}

func proves(t *testing.T, promise string, f *forest.Forest, m, n uint64, want api.Proof) {
	t.Helper()
	if p := proved(t, f, m, n); !same(p, want) {
		t.Fatalf("%s: Prove(%d, %d) of %d items = %s, want %s", promise, m, n, f.Size(), shown(p), shown(want))
	}
}

func provesNot(t *testing.T, f *forest.Forest, m, n uint64, want api.Errno) {
	t.Helper()
	if p, e := kin.Prove(f, m, n); !same(p, api.Proof{}) || e != want {
		t.Fatalf("13.1: Prove(%d, %d) = %s, %d, want %d", m, n, shown(p), e, want)
	}
}

func leads(t *testing.T, promise string, p api.Proof, old, now api.Root) {
	t.Helper()
	if r, s, e := kin.Roots(p); r != old || s != now || e != api.OK {
		t.Fatalf("%s: Roots of %s = %d %x, %d %x, %d, want %d %x, %d %x", promise, shown(p), r.Size, r.Digest, s.Size, s.Digest, e, old.Size, old.Digest, now.Size, now.Digest)
	}
}

// leadsAsHeld holds Roots of a proof against the tests' own trees.
func leadsAsHeld(t *testing.T, promise string, p api.Proof) {
	t.Helper()
	old, now := led(p)
	leads(t, promise, p, old, now)
}

func leadsNowhere(t *testing.T, what string, p api.Proof) {
	t.Helper()
	if r, s, e := kin.Roots(p); r != (api.Root{}) || s != (api.Root{}) || e != api.ErrProof {
		t.Fatalf("13.2: Roots of %s (%s) = %d %x, %d %x, %d, want ErrProof", shown(p), what, r.Size, r.Digest, s.Size, s.Digest, e)
	}
}

// spoil writes over a list and all the room behind it, and grows it.
func spoil[T any](list []T, bad T) {
	whole := list[:cap(list)]
	for i := range whole {
		whole[i] = bad
	}
	_ = append(list, bad)
}

func TestExamples(t *testing.T) {
	var d []string
	for _, item := range []string{"a", "b", "c", "d", "e", "f", "g"} {
		d = append(d, leaf(32, item))
	}
	a, b, c, ab, ef := d[0], d[1], d[2], node(32, d[0], d[1]), node(32, d[4], d[5])
	f := of(t, 32, []string{"a", "b", "c", "d", "e", "f", "g"})
	for _, x := range []struct {
		m, n uint64
		want []string
	}{
		{3, 7, []string{ab, c, d[3], ef, d[6]}},
		{0, 3, []string{ab, c}},
		{3, 3, []string{ab, c}},
		{2, 3, []string{ab, c}},
		{1, 3, []string{a, b, c}},
		{1, 2, []string{a, b}},
		{0, 1, []string{a}},
		{1, 1, []string{a}},
		{0, 0, nil},
	} {
		proves(t, "13.1", f, x.m, x.n, api.Proof{Kind: api.KindKin, K: 32, Old: x.m, Size: x.n, Digests: x.want})
		leads(t, "13.3", proved(t, f, x.m, x.n), rooted(t, f, x.m), rooted(t, f, x.n))
	}
	provesNot(t, f, 4, 3, 41)
	provesNot(t, f, 9, 8, 30)
	old := api.Root{Size: 3, Digest: hash.Root(32, 3, []string{ab, c})}
	now := api.Root{Size: 7, Digest: hash.Root(32, 7, []string{node(32, ab, node(32, c, d[3])), ef, d[6]})}
	leads(t, "13.2", proved(t, f, 3, 7), old, now)
}

func TestHardPlaces(t *testing.T) {
	c := chance(130)
	for k := 1; k <= 32; k++ {
		none := api.Root{Digest: digest(k, "\x03\x00\x00\x00\x00\x00\x00\x00\x00")}
		leads(t, "13.2", api.Proof{Kind: 3, K: k}, none, none)
		proves(t, "13.1", of(t, k, nil), 0, 0, api.Proof{Kind: 3, K: k})
		proves(t, "13.1", of(t, k, counted(3)), 0, 0, api.Proof{Kind: 3, K: k})
		leadsNowhere(t, "a digest of nothing", api.Proof{Kind: 3, K: k, Digests: []string{c.text(k)}})
	}
	for _, old := range append(numbers(), leaves-2, leaves/3, 2*(leaves/3)) {
		if old > leaves {
			leadsNowhere(t, "Old above Size", api.Proof{Kind: 3, K: 2, Old: old, Size: leaves, Digests: c.texts(c.below(42), 2)})
			continue
		}
		p := c.byHand(2, old, leaves)
		if len(p.Digests) > 41 {
			t.Fatalf("13.6: a kin of %d and MaxLeaves has %d digests", old, len(p.Digests))
		}
		leadsAsHeld(t, "13.2", p)
		p.Digests = append(p.Digests, c.text(2))
		leadsNowhere(t, "one digest more", p)
		p.Digests = p.Digests[:len(p.Digests)-2]
		leadsNowhere(t, "one digest less", p)
	}
}

// By sha256sum: 01 and the sums of 00 61 and 00 62; 02, that and the sum of 00 63; 03, the size 3 and that. Of no item: 03 and eight zeros.
func TestKnownRoots(t *testing.T) {
	three, err := hex.DecodeString("6356b7c28e03afe7a9f1ab896b8df936d1920a4e168887259c419b9c452c8e92")
	if err != nil {
		t.Fatal(err)
	}
	f := of(t, 32, []string{"a", "b", "c"})
	for m := range uint64(4) {
		old, now, e := kin.Roots(proved(t, f, m, 3))
		if e != api.OK || now != (api.Root{Size: 3, Digest: string(three)}) {
			t.Errorf("13.3: the kin of %d and 3 leads to %x, %d", m, now.Digest, e)
		}
		if (old == now) != (m == 3) {
			t.Errorf("13.6: the kin of %d and 3 leads from %x to %x", m, old.Digest, now.Digest)
		}
	}
}

// Every m and n of short lists: the largest blocks by trying every one, their digests by package plain.
func TestAllOfFewItems(t *testing.T) {
	c := chance(131)
	for _, k := range []int{1, 2, 17, 32} {
		list := c.items(40)
		f, h := of(t, k, list), modelOf(k, list)
		for n := range uint64(41) {
			now, e := plain.Root(k, list, n)
			if e != api.OK {
				t.Fatal(e)
			}
			for m := range n + 1 {
				p := proved(t, f, m, n)
				held := append(mountains(m), largest(m, n)...)
				if want := h.over(m, n, held); !same(p, want) {
					t.Fatalf("13.1: Prove(%d, %d) = %s, want %s", m, n, shown(p), shown(want))
				}
				for at, b := range held {
					if d, ok := plain.Tree(k, list[:n], b); !ok || d != p.Digests[at] {
						t.Fatalf("13.1: Prove(%d, %d) has %x at %d, want %x", m, n, p.Digests[at], at, d)
					}
				}
				old, _ := plain.Root(k, list, m)
				leads(t, "13.3", p, old, now)
				leads(t, "13.3", p, rooted(t, f, m), rooted(t, f, n))
			}
		}
	}
}

// The two ways in which these tests find a cover have the same blocks, and package cover has them too.
func TestCoversOfTheTests(t *testing.T) {
	for n := range uint64(66) {
		for m := range n + 1 {
			theirs, e := cover.Range(m, n, n)
			if list := behind(m, n); e != api.OK || !slices.Equal(list, largest(m, n)) || !slices.Equal(list, theirs) {
				t.Fatalf("the cover of %d to %d: %v, %v and %v", m, n, list, largest(m, n), theirs)
			}
		}
	}
}

func TestManyItems(t *testing.T) {
	c := chance(132)
	for _, k := range []int{32, 1, 3, 31} {
		list := c.items(420)
		f, h := of(t, k, list), modelOf(k, list)
		for _, n := range []uint64{41, 63, 64, 65, 100, 127, 128, 129, 200, 255, 256, 257, 299, 341, 383, 384, 419, 420} {
			now := rooted(t, f, n)
			for m := uint64(c.below(3)); m <= n; m += 1 + uint64(c.below(5)) {
				proves(t, "13.1", f, m, n, h.kin(m, n))
				leads(t, "13.3", proved(t, f, m, n), rooted(t, f, m), now)
			}
			for _, m := range []uint64{0, 1, n / 2, n - 2, n - 1, n} {
				proves(t, "13.1", f, m, n, h.kin(m, n))
				leads(t, "13.3", proved(t, f, m, n), rooted(t, f, m), now)
			}
		}
	}
}

func TestEveryStrength(t *testing.T) {
	c := chance(133)
	list := c.items(45)
	for k := 1; k <= 32; k++ {
		f, h := of(t, k, list), modelOf(k, list)
		for _, n := range []uint64{0, 1, 2, 3, 7, 8, 31, 32, 33, 44, 45} {
			now, e := plain.Root(k, list, n)
			if e != api.OK {
				t.Fatal(e)
			}
			for m := range n + 1 {
				old, _ := plain.Root(k, list, m)
				proves(t, "13.1", f, m, n, h.kin(m, n))
				leads(t, "13.3", proved(t, f, m, n), old, now)
			}
		}
	}
}

func TestFullForest(t *testing.T) {
	c := chance(134)
	list := counted(most)
	f, h := of(t, 32, list), modelOf(32, list)
	for _, n := range []uint64{1, 2, 4095, 32767, 32768, 32769, 43690, 65535, 65536} {
		now := rooted(t, f, n)
		for _, m := range []uint64{0, 1, n / 3, n / 2, n - 1, n, c.beginning(n), c.beginning(n), c.beginning(n)} {
			proves(t, "13.1", f, m, n, h.kin(m, n))
			leads(t, "13.3", proved(t, f, m, n), rooted(t, f, m), now)
		}
	}
	provesNot(t, f, 0, most+1, api.ErrSize)
	provesNot(t, f, most+1, most+1, api.ErrSize)
	provesNot(t, f, most+1, most, api.ErrOrder)
}

// Which error comes first, at the ends of both numbers.
func TestErrorsOfProve(t *testing.T) {
	seen := map[api.Errno]int{}
	for _, size := range []uint64{0, 1, 2, 3, 7, 8, 64, 100} {
		list := counted(int(size))
		f, h := of(t, 3, list), modelOf(3, list)
		many := append(numbers(), size, size+1, size+2, size-1, size/2, leaves+2, math.MaxUint64-1)
		for _, n := range many {
			for _, m := range append(many, n-1, n, n+1) {
				want := api.OK
				if n > size {
					want = api.ErrSize
				} else if m > n {
					want = api.ErrOrder
				}
				seen[want]++
				if want == api.OK {
					proves(t, "13.1", f, m, n, h.kin(m, n))
				} else {
					provesNot(t, f, m, n, want)
				}
			}
		}
	}
	if len(seen) != 3 {
		t.Errorf("not all errors came: %v", seen)
	}
	empty := of(t, 32, nil)
	provesNot(t, empty, 1, 0, api.ErrOrder)
	provesNot(t, empty, math.MaxUint64, 0, api.ErrOrder)
	provesNot(t, empty, 0, 1, api.ErrSize)
	provesNot(t, empty, 1, 1, api.ErrSize)
	provesNot(t, empty, 0, math.MaxUint64, api.ErrSize)
	provesNot(t, empty, math.MaxUint64, math.MaxUint64, api.ErrSize)
	provesNot(t, empty, math.MaxUint64, math.MaxUint64-1, api.ErrSize)
}

// Where New was refused there is no forest: there are no items, and Prove does not panic.
func TestNoForest(t *testing.T) {
	f, _ := forest.New(0)
	for _, n := range numbers() {
		for _, m := range []uint64{0, 1, n, n + 1, math.MaxUint64} {
			provesNot(t, f, m, n, api.ErrSize)
		}
	}
}

// Of unlike items each digest tells its block: the first Ones(m) are all of the first m, the others all that came behind, and there are not too many.
func TestHowManyDigests(t *testing.T) {
	c := chance(135)
	list := counted(520)
	f := of(t, 32, list)
	blocksBy := map[string]api.Block{}
	for b, d := range modelOf(32, list).digests {
		blocksBy[d] = b
	}
	for _, n := range []uint64{0, 1, 2, 3, 5, 8, 21, 63, 64, 65, 127, 255, 256, 341, 511, 512, 513, 520} {
		for range 40 {
			m := c.beginning(n)
			p := proved(t, f, m, n)
			ones := bits.OnesCount64(m)
			count, e := cover.Range(m, n, n)
			if e != api.OK || len(p.Digests) != ones+len(count) || len(p.Digests) > 128 {
				t.Fatalf("13.6: Prove(%d, %d) has %d digests", m, n, len(p.Digests))
			}
			at := uint64(0)
			for i, d := range p.Digests {
				b, ok := blocksBy[d]
				if !ok || first(b) != at {
					t.Fatalf("0.5: Prove(%d, %d) has the block %v behind the items below %d", m, n, b, at)
				}
				at = end(b)
				if i+1 == ones && at != m {
					t.Fatalf("13.1: Prove(%d, %d) has the items below %d in its first %d digests", m, n, at, ones)
				}
			}
			if at != n {
				t.Fatalf("0.5: Prove(%d, %d) stands for %d items", m, n, at)
			}
		}
	}
}

// Of m = n the peaks alone, and both roots are one; of m = 0 the peaks of n too.
func TestPeaksAlone(t *testing.T) {
	c := chance(136)
	list := c.items(300)
	for _, k := range []int{1, 32} {
		f := of(t, k, list)
		none := api.Root{Digest: hash.Root(k, 0, nil)}
		for n := range uint64(301) {
			tops := plain.Peaks(k, list[:n])
			now := rooted(t, f, n)
			proves(t, "13.6", f, n, n, api.Proof{Kind: 3, K: k, Old: n, Size: n, Digests: tops})
			leads(t, "13.6", proved(t, f, n, n), now, now)
			proves(t, "13.6", f, 0, n, api.Proof{Kind: 3, K: k, Size: n, Digests: tops})
			leads(t, "13.6", proved(t, f, 0, n), none, now)
		}
	}
	for range 400 {
		n, k := c.size(), 1+c.below(32)
		p := api.Proof{Kind: 3, K: k, Old: n, Size: n, Digests: c.texts(bits.OnesCount64(n), k)}
		r := api.Root{Size: n, Digest: hash.Root(k, n, p.Digests)}
		leads(t, "13.6", p, r, r)
		p.Old = 0
		leads(t, "13.6", p, api.Root{Digest: hash.Root(k, 0, nil)}, r)
	}
}

// Proofs by hand, of sizes that no forest has: just one number of digests is right, and there are at most 128.
func TestAnySize(t *testing.T) {
	c := chance(137)
	for range 4000 {
		n := c.size()
		p := c.byHand(1+c.below(32), c.beginning(n), n)
		if len(p.Digests) > 128 {
			t.Fatalf("0.5: a kin of %d and %d has %d digests", p.Old, n, len(p.Digests))
		}
		leadsAsHeld(t, "13.2", p)
		right := len(p.Digests)
		p.Digests = append(p.Digests, c.text(p.K))
		leadsNowhere(t, "a digest too many", p)
		if right > 0 {
			p.Digests = p.Digests[:right-1]
			leadsNowhere(t, "a digest too few", p)
		}
	}
}

// A proof by hand goes on as a range of package peaks does, tree by tree.
func TestAsPeaksGrow(t *testing.T) {
	c := chance(138)
	for range 1500 {
		n := c.size()
		p := c.byHand(1+c.below(32), c.beginning(n), n)
		r, e := peaks.From(p.K, p.Old, p.Digests[:bits.OnesCount64(p.Old)])
		if e != api.OK {
			t.Fatalf("From of %d peaks of %d = %d", bits.OnesCount64(p.Old), p.Old, e)
		}
		old := r.Root()
		for at, b := range behind(p.Old, n) {
			if e := r.Join(b.H, p.Digests[bits.OnesCount64(p.Old)+at]); e != api.OK {
				t.Fatalf("Join of %v behind %d items = %d", b, r.Size(), e)
			}
		}
		leads(t, "13.2", p, old, r.Root())
	}
}

// The greatest sizes, with beginnings at both ends of each mountain: such calls end soon.
func TestGreatSizes(t *testing.T) {
	c := chance(139)
	began := time.Now()
	for _, n := range []uint64{leaves, leaves - 1, leaves - 2, leaves / 2, leaves/2 + 1, leaves - leaves/4 + 1, 1 << 32, 1<<32 + 1, 1<<32 - 1, 0x5555555555, 0xaaaaaaaaaa} {
		many := []uint64{0, 1, 2, 3, n / 3, n / 2, n - 3, n - 2, n - 1, n, 0x5555555555 % (n + 1), 0xaaaaaaaaaa % (n + 1)}
		for _, b := range mountains(n) {
			many = append(many, first(b), first(b)+1, first(b)+1<<b.H/2, end(b)-1, end(b))
		}
		for _, m := range many {
			if m > n {
				continue
			}
			p := c.byHand(5, m, n)
			leadsAsHeld(t, "13.2", p)
			for _, digests := range [][]string{nil, p.Digests[1:], p.Digests[:len(p.Digests)-1], append(slices.Clone(p.Digests), p.Digests[0])} {
				q := p
				q.Digests = digests
				leadsNowhere(t, "another number of digests", q)
			}
		}
	}
	p := api.Proof{Kind: 3, K: 32, Old: leaves - 1, Size: leaves, Digests: c.texts(41, 32)}
	d := p.Digests[40]
	for at := 39; at >= 0; at-- {
		d = node(32, p.Digests[at], d)
	}
	leads(t, "13.2", p, api.Root{Size: leaves - 1, Digest: hash.Root(32, leaves-1, p.Digests[:40])}, api.Root{Size: leaves, Digest: hash.Root(32, leaves, []string{d})})
	p.Old = 1
	d = p.Digests[0]
	for at := 1; at <= 40; at++ {
		d = node(32, d, p.Digests[at])
	}
	leads(t, "13.2", p, api.Root{Size: 1, Digest: hash.Root(32, 1, p.Digests[:1])}, api.Root{Size: leaves, Digest: hash.Root(32, leaves, []string{d})})
	if took := time.Since(began); took > 2*time.Minute {
		t.Errorf("13.2: it took %v", took)
	}
}

// One proof's digests held against each pair of sizes: the numbers alone say where they belong.
func TestOtherNumbers(t *testing.T) {
	c := chance(140)
	for digests := range 9 {
		p := api.Proof{Kind: 3, K: 32, Digests: c.texts(digests, 32)}
		roots := map[[2]api.Root]int{}
		for n := range uint64(70) {
			for m := range uint64(72) {
				p.Old, p.Size = m, n
				if m > n || len(blocks(m, n)) != digests {
					leadsNowhere(t, "numbers of other digests", p)
					continue
				}
				old, now := led(p)
				leads(t, "13.2", p, old, now)
				if roots[[2]api.Root{old, now}]++; roots[[2]api.Root{old, now}] > 1 {
					t.Fatalf("13.2: two pairs of sizes lead to the same roots")
				}
			}
		}
	}
}

// wrong are the ways in which a kin's numbers are not well formed, by their names.
func wrong(p api.Proof) map[string]func(*api.Proof) {
	list := map[string]func(*api.Proof){}
	for _, kind := range []int{0, 1, 2, 4, 5, -1, -3, 1<<8 + 3, 1<<16 + 3, 1<<32 + 3, -1<<32 + 3, math.MinInt, math.MinInt + 3, math.MaxInt} {
		list["Kind "+strconv.Itoa(kind)] = func(q *api.Proof) { q.Kind = kind }
	}
	for _, k := range []int{0, -1, -p.K, 33, 34, 64, 255, 256, 256 + p.K, 1<<16 + p.K, 1<<32 + p.K, math.MinInt, math.MinInt + p.K, math.MaxInt, math.MaxInt32} {
		list["K "+strconv.Itoa(k)] = func(q *api.Proof) { q.K = k }
	}
	for _, n := range []uint64{leaves + 1, leaves + 2, 2 * leaves, 2*leaves + p.Size, 1<<48 + p.Size, 1<<63 + p.Size, 1 << 63, math.MaxUint64, math.MaxUint64 - 1} {
		list["Size "+strconv.FormatUint(n, 10)] = func(q *api.Proof) { q.Size = n }
		list["Old and Size "+strconv.FormatUint(n, 10)] = func(q *api.Proof) { q.Old, q.Size = n, n }
	}
	for _, old := range []uint64{p.Size + 1, p.Size + 2, 2*leaves + p.Old, 1<<48 + p.Old, 1<<63 + p.Old, 1 << 63, math.MaxUint64, math.MaxUint64 - 1} {
		list["Old "+strconv.FormatUint(old, 10)] = func(q *api.Proof) { q.Old = old }
	}
	if p.Old > 0 {
		list["Size below Old"] = func(q *api.Proof) { q.Size = p.Old - 1 }
	}
	for _, set := range [][]uint64{{0}, {p.Old}, {p.Size}, {math.MaxUint64}, {0, 1}, {1, 0}, {0, 0}} {
		list[fmt.Sprint("Set ", set)] = func(q *api.Proof) { q.Set = set }
	}
	return list
}

// short are the ways in which a kin's digests are not as its numbers ask.
func short(p api.Proof) map[string]func(*api.Proof) {
	one := strings.Repeat("d", p.K)
	list := map[string]func(*api.Proof){
		"one more at the end":       func(q *api.Proof) { q.Digests = append(q.Digests, one) },
		"one more at the beginning": func(q *api.Proof) { q.Digests = append([]string{one}, q.Digests...) },
		"nothing more at the end":   func(q *api.Proof) { q.Digests = append(q.Digests, "") },
		"twice as many and one":     func(q *api.Proof) { q.Digests = append(slices.Concat(q.Digests, q.Digests), one) },
		"a thousand":                func(q *api.Proof) { q.Digests = slices.Repeat([]string{one}, 1000) },
	}
	count := len(p.Digests)
	if count == 0 {
		return list
	}
	list["none"] = func(q *api.Proof) { q.Digests = nil }
	list["another K"] = func(q *api.Proof) { q.K = q.K%32 + 1 }
	for at := range count {
		name := " at " + strconv.Itoa(at)
		list["one less"+name] = func(q *api.Proof) { q.Digests = slices.Delete(q.Digests, at, at+1) }
		list["one twice"+name] = func(q *api.Proof) { q.Digests = slices.Insert(q.Digests, at, q.Digests[at]) }
		list["a byte less"+name] = func(q *api.Proof) { q.Digests[at] = q.Digests[at][1:] }
		list["a byte more"+name] = func(q *api.Proof) { q.Digests[at] += "x" }
		list["256 bytes more"+name] = func(q *api.Proof) { q.Digests[at] += strings.Repeat("x", 256) }
		if p.K > 1 { // else it is a byte less
			list["nothing"+name] = func(q *api.Proof) { q.Digests[at] = "" }
		}
		if at > 0 { // all of both, but the cut between them elsewhere
			list["a byte moved"+name] = func(q *api.Proof) {
				q.Digests[at-1] += q.Digests[at][:1]
				q.Digests[at] = q.Digests[at][1:]
			}
		}
	}
	return list
}

func TestNotWellFormed(t *testing.T) {
	c := chance(141)
	for _, n := range []uint64{0, 1, 2, 3, 7, 8, 13, 64, 100, 1 << 20, leaves - 1, leaves} {
		for _, m := range []uint64{0, min(n, 1), n / 2, n - min(n, 1), n, c.beginning(n)} {
			for _, k := range []int{1, 2, 31, 32} {
				p := c.byHand(k, m, n)
				old, now := led(p)
				leads(t, "13.2", p, old, now)
				for _, ways := range []map[string]func(*api.Proof){wrong(p), short(p)} {
					for name, change := range ways {
						q := copied(p)
						change(&q)
						leadsNowhere(t, name, q)
					}
				}
				leads(t, "13.2", p, old, now)
			}
		}
	}
}

// What a forest gave is refused in each of these ways too, also where two of them meet.
func TestForestsProofsNotWellFormed(t *testing.T) {
	c := chance(142)
	f := of(t, 4, counted(90))
	for range 60 {
		n := uint64(c.below(91))
		p := proved(t, f, c.beginning(n), n)
		for name, change := range wrong(p) {
			q := copied(p)
			change(&q)
			leadsNowhere(t, name, q)
			q.Digests = append(q.Digests, "more")
			leadsNowhere(t, name+" and one more", q)
		}
	}
}

// Proofs of the other kinds, right as such, are no kin.
func TestOtherKinds(t *testing.T) {
	one := leaf(32, "a")
	for _, p := range []api.Proof{
		{},
		{K: 32},
		{Kind: 1, K: 32, Size: 1, Set: []uint64{0}},
		{Kind: 1, K: 32, Size: 2, Set: []uint64{0}, Digests: []string{one}},
		{Kind: 2, K: 32, Size: 1, Set: []uint64{0}},
		{Kind: 2, K: 32, Size: 3, Set: []uint64{0, 2}, Digests: []string{one}},
		{Kind: 3, K: 32, Size: 1, Set: []uint64{0}, Digests: []string{one}},
	} {
		leadsNowhere(t, "another kind", p)
	}
}

// An empty list and a missing one are one.
func TestEmptyLists(t *testing.T) {
	c := chance(143)
	for _, n := range []uint64{0, 1, 6, 7, leaves} {
		for _, m := range []uint64{0, n / 2, n} {
			p := c.byHand(9, m, n)
			old, now := led(p)
			for _, set := range [][]uint64{nil, {}, make([]uint64, 0, 8), []uint64{1, 2}[:0]} {
				q := p
				q.Set = set
				leads(t, "13.2", q, old, now)
				if n == 0 {
					for _, digests := range [][]string{nil, {}, make([]string, 0, 8), []string{"x"}[:0]} {
						q.Digests = digests
						leads(t, "13.2", q, old, now)
					}
				}
			}
		}
	}
}

// changed are texts of the same length, each unlike d in some bit.
func changed(d string) []string {
	var list []string
	for _, at := range []int{0, len(d) / 2, len(d) - 1} {
		for _, bit := range []byte{1, 16, 128} {
			row := []byte(d)
			row[at] ^= bit
			list = append(list, string(row))
		}
	}
	return list
}

// With another digest in one place there is another now, and of the first Ones(m) another old: of 32 bytes no two texts of one digest are found here. What came behind m says nothing of old.
func TestHangsOnAll(t *testing.T) {
	c := chance(144)
	f := of(t, 32, counted(70))
	var many []api.Proof
	for n := range uint64(71) {
		for range 6 {
			many = append(many, proved(t, f, c.beginning(n), n))
		}
	}
	for range 100 {
		n := c.size()
		many = append(many, c.byHand(32, c.beginning(n), n))
	}
	for _, p := range many {
		ones := bits.OnesCount64(p.Old)
		old, now := led(p)
		leads(t, "13.2", p, old, now)
		other := func(what string, at int, oldToo bool) {
			r, s, e := kin.Roots(p)
			if e != api.OK || s.Digest == now.Digest || (r.Digest != old.Digest) != oldToo || r.Size != p.Old || s.Size != p.Size {
				t.Fatalf("13.6: the kin of %d and %d with another %s at %d leads to %x, %x, %d", p.Old, p.Size, what, at, r.Digest, s.Digest, e)
			}
		}
		for at, was := range p.Digests {
			for _, d := range changed(was)[at%3*3 : at%3*3+3] {
				p.Digests[at] = d
				other("digest", at, at < ones)
			}
			p.Digests[at] = was
		}
		for at := 1; at < len(p.Digests); at++ {
			p.Digests[at-1], p.Digests[at] = p.Digests[at], p.Digests[at-1]
			other("order", at, at <= ones)
			p.Digests[at-1], p.Digests[at] = p.Digests[at], p.Digests[at-1]
		}
		leads(t, "13.2", p, old, now)
	}
}

// At small strengths another digest may lead to the same root: then two unlike texts have one digest. Some text is always another.
func TestHangsOnAllOrTwoTexts(t *testing.T) {
	c := chance(145)
	alike := 0
	for _, k := range []int{1, 2} {
		for range 4000 {
			n := 1 + c.size()%leaves
			p := c.byHand(k, c.beginning(n), n)
			q := copied(p)
			at := c.below(len(p.Digests))
			q.Digests[at] = changed(q.Digests[at])[c.below(9)]
			x, y, old, now := ofProof(p)
			x2, y2, old2, now2 := ofProof(q)
			leads(t, "13.2", p, old, now)
			leads(t, "13.2", q, old2, now2)
			if maps.Equal(y.texts, y2.texts) || maps.Equal(x.texts, x2.texts) == (at < bits.OnesCount64(p.Old)) {
				t.Fatalf("13.6: the digest %d of a kin of %d and %d is in no text", at, p.Old, n)
			}
			if now == now2 {
				alike++
				if !pair(y, y2) {
					t.Fatalf("13.6: another digest of a kin of %d and %d leads to the same now, and no two texts have one digest", p.Old, n)
				}
			}
			if old == old2 && at < bits.OnesCount64(p.Old) && !pair(x, x2) {
				t.Fatalf("13.6: another digest of a kin of %d and %d leads to the same old, and no two texts have one digest", p.Old, n)
			}
		}
	}
	if alike == 0 {
		t.Error("no two proofs lead to one root: nothing was tried")
	}
}

// found tells whether two unlike texts of one digest are among those of two lists and of a proof between them, at one place.
func found(p api.Proof, old, now []string) bool {
	x, y, _, _ := ofProof(p)
	a, _ := ofList(p.K, old)
	b, _ := ofList(p.K, now)
	leafs := newTree(p.K) // old's root and bags stand elsewhere than now's
	for at, text := range a.texts {
		if at.kind < 2 {
			leafs.texts[at] = text
		}
	}
	return pair(a, x) || pair(b, y) || pair(leafs, b)
}

// isBeginning tells whether a list is a beginning of another.
func isBeginning(old, now []string) bool {
	return len(old) <= len(now) && slices.Equal(old, now[:len(old)])
}

// listOf is a list with this root, of strength 1: some of the items of near may be others. One of 256 has it, so a hundred thousand are enough.
func (c *chance) listOf(t *testing.T, near []string, root api.Root) []string {
	t.Helper()
	for range 100000 {
		list := slices.Clone(near)
		for i := range list {
			if c.below(2) == 0 {
				list[i] = c.text(4)
			}
		}
		if _, r := ofList(1, list); r == root {
			return list
		}
	}
	t.Fatalf("13.2: no list of %d items has the root %d %x", len(near), root.Size, root.Digest)
	return nil
}

// Of strength 1 lists are soon found to whose commitments a proof leads, be it a forest's or by hand: the one is a beginning of the other, or two unlike texts have one digest.
func TestListsBehindAProof(t *testing.T) {
	c := chance(146)
	truly, falsely := 0, 0
	for round := range 400 {
		n := uint64(1 + c.below(9))
		m := uint64(1 + c.below(int(n)))
		now := c.texts(int(n), 4)
		p := c.byHand(1, m, n)
		if round%2 == 0 {
			p = proved(t, of(t, 1, now), m, n)
		}
		r, s, e := kin.Roots(p)
		if e != api.OK {
			t.Fatalf("13.2: Roots of %s = %d", shown(p), e)
		}
		if round%2 == 1 || c.below(2) == 0 {
			now = c.listOf(t, now, s)
		}
		old := c.listOf(t, now[:m], r)
		if isBeginning(old, now) {
			truly++
			continue
		}
		falsely++
		if !found(p, old, now) {
			t.Fatalf("13.4: %s leads to the commitments of %q and %q, and no two texts have one digest", shown(p), old, now)
		}
	}
	if truly == 0 || falsely == 0 {
		t.Errorf("of the lists behind a proof %d are beginnings, %d are not: not all was tried", truly, falsely)
	}
}

// Every proof of strength 1 of one item and two: whichever leads to the commitments of two lists, they are as 13.4 says.
func TestEveryProofOfTwoItems(t *testing.T) {
	c := chance(147)
	accepted := 0
	for range 6 {
		old, now := c.texts(1, 4), c.texts(2, 4)
		_, r := ofList(1, old)
		_, s := ofList(1, now)
		for d := range 1 << 16 {
			p := api.Proof{Kind: 3, K: 1, Old: 1, Size: 2, Digests: []string{string([]byte{byte(d >> 8)}), string([]byte{byte(d)})}}
			if x, y, e := kin.Roots(p); e != api.OK {
				t.Fatalf("13.2: Roots of %s = %d", shown(p), e)
			} else if x == r && y == s {
				accepted++
				if !found(p, old, now) {
					t.Fatalf("13.4: %s leads to the commitments of %q and %q", shown(p), old, now)
				}
			}
		}
	}
	if accepted == 0 {
		t.Error("no proof leads to two lists: nothing was tried")
	}
}

// Of 32 bytes no proof is found between lists of which the one is no beginning of the other.
func TestNoBeginning(t *testing.T) {
	list := counted(24)
	f := of(t, 32, list)
	for n := uint64(1); n <= 24; n++ {
		for m := uint64(1); m <= n; m++ {
			r, s, e := kin.Roots(proved(t, f, m, n))
			for i := range n {
				other := slices.Clone(list[:n])
				other[i] = "another item"
				old, _ := plain.Root(32, other, m)
				now, _ := plain.Root(32, other, n)
				if e != api.OK || i < m && r == old || s == now {
					t.Fatalf("13.4: the kin of %d and %d leads to a list with another item %d", m, n, i)
				}
			}
		}
	}
}

// A proof of m and n, and one of n and o, meet in one commitment; and m is to o as they say.
func TestJoined(t *testing.T) {
	c := chance(148)
	list := counted(200)
	f := of(t, 32, list)
	for range 1500 {
		o := uint64(c.below(201))
		n := c.beginning(o)
		m := c.beginning(n)
		a, b, e := kin.Roots(proved(t, f, m, n))
		b2, d, e2 := kin.Roots(proved(t, f, n, o))
		if e != api.OK || e2 != api.OK || b != b2 {
			t.Fatalf("13.5: the kins of %d and %d, and of %d and %d, don't meet: %x, %x", m, n, n, o, b.Digest, b2.Digest)
		}
		leads(t, "13.5", proved(t, f, m, o), a, d)
	}
}

// Of strength 1 two proofs are soon joined between lists that are no beginnings: then two unlike texts have one digest in one of the two.
func TestJoinedFalsely(t *testing.T) {
	c := chance(149)
	falsely := 0
	for range 200 {
		o := uint64(1 + c.below(9))
		n := uint64(1 + c.below(int(o)))
		m := uint64(1 + c.below(int(n)))
		last := c.texts(int(o), 4)
		q := proved(t, of(t, 1, last), n, o)
		_, _, r, _ := ofProof(q)
		middle := c.listOf(t, last[:n], r)
		p := proved(t, of(t, 1, middle), m, n)
		_, _, s, _ := ofProof(p)
		begin := c.listOf(t, middle[:m], s)
		x, y, e := kin.Roots(p)
		y2, z, e2 := kin.Roots(q)
		_, a := ofList(1, begin)
		_, b := ofList(1, middle)
		_, d := ofList(1, last)
		if e != api.OK || e2 != api.OK || x != a || y != b || y2 != b || z != d {
			t.Fatalf("13.5: the kins of %d and %d, and of %d and %d, are not accepted between the lists", m, n, n, o)
		}
		if isBeginning(begin, last) {
			continue
		}
		falsely++
		if !found(p, begin, middle) && !found(q, middle, last) {
			t.Fatalf("13.5: %q, %q and %q are joined, and no two texts have one digest", begin, middle, last)
		}
	}
	if falsely == 0 {
		t.Error("no lists were joined falsely: nothing was tried")
	}
}

// A node's digest is no leaf's: an item that is a node's text leads elsewhere.
func TestNodeIsNoItem(t *testing.T) {
	a, b := leaf(32, "a"), leaf(32, "b")
	f := of(t, 32, []string{"a", "b"})
	for _, item := range []string{a + b, "\x01" + a + b, node(32, a, b)} {
		r, _, e := kin.Roots(proved(t, of(t, 32, []string{item}), 1, 1))
		if e != api.OK || r.Digest == rooted(t, f, 2).Digest {
			t.Errorf("13.4: a node as an item leads to %x, %d", r.Digest, e)
		}
	}
}

// Items of MaxItem bytes are as any others.
func TestLongestItems(t *testing.T) {
	list := []string{strings.Repeat("a", longest), "", strings.Repeat("\xff", longest)}
	f := of(t, 32, list)
	for n := range uint64(4) {
		for m := range n + 1 {
			old, _ := plain.Root(32, list, m)
			now, _ := plain.Root(32, list, n)
			leads(t, "13.3", proved(t, f, m, n), old, now)
		}
	}
}

// A kin of the first n is the same, whatever was appended behind.
func TestLaterItemsChangeNothing(t *testing.T) {
	list := counted(70)
	f, h := of(t, 9, nil), modelOf(9, list)
	var early []api.Proof
	for n := range uint64(71) {
		for m := range n + 1 {
			early = append(early, proved(t, f, m, n))
		}
		if n < 70 {
			f.Append(list[n])
		}
	}
	for _, p := range early {
		if !same(p, h.kin(p.Old, p.Size)) {
			t.Fatalf("R3: the kin of %d and %d changed as the forest grew", p.Old, p.Size)
		}
		proves(t, "R11", f, p.Old, p.Size, p)
	}
}

// untouched holds a forest's nodes and roots against its list.
func untouched(t *testing.T, f *forest.Forest, list []string, k int) {
	t.Helper()
	if f.Size() != uint64(len(list)) || f.Strength() != k {
		t.Fatalf("R3: the forest has the size %d, the strength %d", f.Size(), f.Strength())
	}
	for b, want := range modelOf(k, list).digests {
		if d, ok := f.Digest(b); d != want || !ok {
			t.Fatalf("R3: the forest has %x, %t at (%d, %d), want %x", d, ok, b.H, b.K, want)
		}
	}
	for n := range uint64(len(list)) + 1 {
		want, _ := plain.Root(k, list, n)
		if r, e := f.Root(n); r != want || e != api.OK {
			t.Fatalf("R3: the forest's Root(%d) = %x, %d, want %x", n, r.Digest, e, want.Digest)
		}
	}
}

// Proving and checking change nothing of the forest, and asked twice they answer the same.
func TestAskedTwice(t *testing.T) {
	list := counted(50)
	f := of(t, 12, list)
	for n := range uint64(53) {
		for m := range n + 3 {
			p, e := kin.Prove(f, m, n)
			q, e2 := kin.Prove(f, m, n)
			if !same(p, q) || e != e2 {
				t.Fatalf("R11: Prove(%d, %d) twice = %s, %d and %s, %d", m, n, shown(p), e, shown(q), e2)
			}
			for _, x := range []api.Proof{p, q} { // with an error the zero proof: refused twice
				r, s, e := kin.Roots(x)
				r2, s2, e2 := kin.Roots(x)
				if r != r2 || s != s2 || e != e2 {
					t.Fatalf("R11: Roots of %s twice = %x, %x, %d and %x, %x, %d", shown(x), r.Digest, s.Digest, e, r2.Digest, s2.Digest, e2)
				}
			}
		}
	}
	untouched(t, f, list, 12)
}

// The list of a proof is the caller's: the forest and other answers have room of their own.
func TestAnsweredListsAreTheCallers(t *testing.T) {
	list := counted(45)
	f, h := of(t, 7, list), modelOf(7, list)
	for n := range uint64(46) {
		for m := range n + 1 {
			want := h.kin(m, n)
			one, two := proved(t, f, m, n), proved(t, f, m, n)
			three := proved(t, f, n, n)
			spoil(one.Digests, "written over")
			spoil(one.Set, 99)
			if !same(two, want) || !same(three, h.kin(n, n)) {
				t.Fatalf("R3: two answers of Prove(%d, %d) share room", m, n)
			}
			spoil(two.Digests, "written over")
			spoil(three.Digests, "written over")
			proves(t, "R3: an answer was written over", f, m, n, want)
		}
	}
	untouched(t, f, list, 7)
}

// The proof that is handed to Roots stays as it was, and so does the room behind its lists.
func TestHandedProofStays(t *testing.T) {
	c := chance(150)
	for _, n := range []uint64{0, 1, 2, 3, 6, 7, 8, 37, 1 << 20, leaves - 1, leaves} {
		for _, m := range []uint64{0, min(n, 1), n / 2, n - min(n, 1), n, c.beginning(n)} {
			right := len(blocks(m, n))
			set, digests := []uint64{77, 78, 79}, c.texts(right+5, 4)
			wasSet, wasDigests := slices.Clone(set), slices.Clone(digests)
			for _, numbers := range []int{0, 1} { // taken, and refused
				for _, count := range []int{right, right + 1} {
					kin.Roots(api.Proof{Kind: 3, K: 4, Old: m, Size: n, Set: set[:numbers], Digests: digests[:count]})
					if !slices.Equal(set, wasSet) || !slices.Equal(digests, wasDigests) {
						t.Fatalf("13.7: Roots changed what it was handed of a kin of %d and %d, or the room behind it", m, n)
					}
				}
			}
			p := api.Proof{Kind: 3, K: 4, Old: m, Size: n, Set: set[:0], Digests: digests[:right]}
			old, now := led(p)
			r, s, e := kin.Roots(p)
			spoil(p.Digests, "over")
			spoil(p.Set, 0)
			if r != old || s != now || e != api.OK {
				t.Fatalf("13.7: Roots of a kin of %d and %d = %x, %x, %d", m, n, r.Digest, s.Digest, e)
			}
			p.Digests = wasDigests[:right]
			leads(t, "13.7", p, old, now)
		}
	}
}

// Forests of one strength and of others in turns: each kin is its own forest's.
func TestForestsInTurns(t *testing.T) {
	c := chance(151)
	strengths := []int{32, 32, 1, 5}
	var forests []*forest.Forest
	lists := make([][]string, len(strengths))
	for _, k := range strengths {
		forests = append(forests, of(t, k, nil))
	}
	for range 300 {
		at := c.below(len(forests))
		item := c.text(c.below(30))
		forests[at].Append(item)
		lists[at] = append(lists[at], item)
		at = c.below(len(forests))
		f, list := forests[at], lists[at]
		n := uint64(c.below(len(list) + 1))
		m := c.beginning(n)
		proves(t, "R11", f, m, n, modelOf(f.Strength(), list).kin(m, n))
		leads(t, "13.3", proved(t, f, m, n), rooted(t, f, m), rooted(t, f, n))
	}
}
