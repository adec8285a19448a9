package forest_test

import (
	"crypto/sha256"
	"encoding/binary"
	"encoding/hex"
	"math"
	"math/big"
	"math/bits"
	"runtime"
	"slices"
	"strconv"
	"strings"
	"sync"
	"testing"

	"massif/api"
	"massif/forest"
	"massif/hash"
	"massif/num"
	"massif/place"
	"massif/plain"
)

// The document's numbers of MaxItem and MaxItems.
const (
	longest = 1 << 20
	most    = 1 << 16
)

// chance gives numbers by a rule, the same ones in every run.
type chance uint64

func (c *chance) next() uint64 {
	*c = *c*6364136223846793005 + 1442695040888963407
	return uint64(*c)>>32 ^ uint64(*c)<<32
}

// below is a number from 0 to n - 1.
func (c *chance) below(n int) int {
	return int(c.next() % (1 << 32) * uint64(n) >> 32)
}

// text has n bytes of any kind, those that are no UTF-8 among them.
func (c *chance) text(n int) string {
	row := make([]byte, n)
	for i := range row {
		row[i] = byte(c.next())
	}
	return string(row)
}

// items are n texts of up to 150 bytes, some of them nothing, some twice.
func (c *chance) items(n int) []string {
	list := make([]string, n)
	for i := range list {
		switch c.below(8) {
		case 0: // "" is an item
		case 1:
			list[i] = list[c.below(i+1)]
		default:
			list[i] = c.text(c.below(151))
		}
	}
	return list
}

// counted are n items, each unlike all others.
func counted(n int) []string {
	list := make([]string, n)
	for i := range list {
		list[i] = "item " + strconv.Itoa(i)
	}
	return list
}

// digest is the first k bytes of the library's sum of a text.
func digest(k int, text string) string {
	sum := sha256.Sum256([]byte(text))
	return string(sum[:k])
}

func leaf(k int, item string) string { return digest(k, "\x00"+item) }

func node(k int, a, b string) string { return digest(k, "\x01"+a+b) }

// bagged is by recursion, as the document says it.
func bagged(k int, row []string) string {
	switch len(row) {
	case 0:
		return ""
	case 1:
		return row[0]
	}
	return digest(k, "\x02"+row[0]+bagged(k, row[1:]))
}

func root(k, n int, row []string) api.Root {
	head := binary.BigEndian.AppendUint64([]byte{3}, uint64(n))
	return api.Root{Size: uint64(n), Digest: digest(k, string(head)+bagged(k, row))}
}

// model is the row of all nodes of a list, laid as DOC.md's section 'Words' says it.
type model struct {
	k       int
	list    []string
	row     []string // digests by their places
	blocks  []api.Block
	digests map[api.Block]string
	peaks   []string
}

func modelOf(k int, list []string) *model {
	m := &model{k: k, list: list, digests: map[api.Block]string{}}
	first := 0
	for h := 16; h >= 0; h-- {
		if len(list)>>h&1 == 1 {
			m.peaks = append(m.peaks, m.tree(h, first>>h))
			first += 1 << h
		}
	}
	return m
}

// tree lays the left child's tree, the right child's tree, then the node itself.
func (m *model) tree(h, number int) string {
	d := ""
	if h == 0 {
		d = leaf(m.k, m.list[number])
	} else {
		left := m.tree(h-1, 2*number)
		d = node(m.k, left, m.tree(h-1, 2*number+1))
	}
	b := api.Block{H: h, K: uint64(number)}
	m.row, m.blocks, m.digests[b] = append(m.row, d), append(m.blocks, b), d
	return d
}

func (m *model) root() api.Root { return root(m.k, len(m.list), m.peaks) }

// within tells of a block whether all its items are among n, without a bound on its end.
func within(b api.Block, n int) bool {
	if b.H < 0 || b.H > 64 {
		return false
	}
	end := new(big.Int).SetUint64(b.K)
	end.Add(end, big.NewInt(1)).Lsh(end, uint(b.H))
	return end.Cmp(big.NewInt(int64(n))) <= 0
}

// numbers are at both sides of each power of two.
func numbers() []uint64 {
	list := []uint64{0, math.MaxUint64}
	for h := range 64 {
		list = append(list, 1<<h-1, 1<<h, 1<<h+1)
	}
	return list
}

// heights go from the least to the greatest int, some right by their lowest bits alone.
func heights() []int {
	list := []int{math.MinInt, math.MinInt + 1, math.MinInt32, -1 << 32, -1<<32 + 1, -256, -64, -63, -40, -2, -1}
	for h := range 70 {
		list = append(list, h)
	}
	return append(list, 127, 128, 129, 255, 256, 257, 1<<16+1, math.MaxInt32, 1<<32-1, 1<<32, 1<<32+1, 1<<62, math.MaxInt-1, math.MaxInt)
}

// blocks are of all these heights and numbers, most of them of no list.
func blocks() []api.Block {
	var list []api.Block
	for _, h := range heights() {
		for _, k := range numbers() {
			list = append(list, api.Block{H: h, K: k})
		}
	}
	return list
}

// fresh is a forest without items.
func fresh(t *testing.T, k int) *forest.Forest {
	t.Helper()
	f, e := forest.New(k)
	if f == nil || e != api.OK {
		t.Fatalf("10.1: New(%d) = %v, %d", k, f, e)
	}
	return f
}

// appended is what Append answers, if it takes the item.
func appended(t *testing.T, f *forest.Forest, item string) []string {
	t.Helper()
	made, e := f.Append(item)
	if e != api.OK {
		t.Fatalf("10.2: Append of %d bytes at the size %d = %d", len(item), f.Size(), e)
	}
	return made
}

// of is a forest of a list.
func of(t *testing.T, k int, list []string) *forest.Forest {
	t.Helper()
	f := fresh(t, k)
	for _, item := range list {
		appended(t, f, item)
	}
	return f
}

// full is a forest of MaxItems items: made once, since a refused call changes nothing, and others are not done to it.
var full = sync.OnceValues(func() (*forest.Forest, []string) {
	f, _ := forest.New(32)
	list := counted(most)
	for _, item := range list {
		f.Append(item)
	}
	return f, list
})

// refused checks that Append answers an error and no digests.
func refused(t *testing.T, f *forest.Forest, item string, want api.Errno) {
	t.Helper()
	n := f.Size()
	if made, e := f.Append(item); len(made) != 0 || e != want {
		t.Errorf("10.2: Append of %d bytes at the size %d = %x, %d, want %d", len(item), n, made, e, want)
	}
	if f.Size() != n {
		t.Errorf("10.2: a refused Append changed the size from %d to %d", n, f.Size())
	}
}

func hasNode(t *testing.T, promise string, f *forest.Forest, p uint64, want string) {
	t.Helper()
	if d, ok := f.Node(p); d != want || !ok {
		t.Fatalf("%s: Node(%d) of %d items = %x, %t, want %x", promise, p, f.Size(), d, ok, want)
	}
}

func hasNoNode(t *testing.T, f *forest.Forest, p uint64) {
	t.Helper()
	if d, ok := f.Node(p); d != "" || ok {
		t.Fatalf("10.4: Node(%d) of %d items = %x, %t", p, f.Size(), d, ok)
	}
}

func hasDigest(t *testing.T, promise string, f *forest.Forest, b api.Block, want string) {
	t.Helper()
	if d, ok := f.Digest(b); d != want || !ok {
		t.Fatalf("%s: Digest(%d, %d) of %d items = %x, %t, want %x", promise, b.H, b.K, f.Size(), d, ok, want)
	}
}

func hasNoDigest(t *testing.T, f *forest.Forest, b api.Block) {
	t.Helper()
	if d, ok := f.Digest(b); d != "" || ok {
		t.Fatalf("10.5: Digest(%d, %d) of %d items = %x, %t", b.H, b.K, f.Size(), d, ok)
	}
}

func hasRoot(t *testing.T, promise string, f *forest.Forest, n uint64, want api.Root) {
	t.Helper()
	if r, e := f.Root(n); r != want || e != api.OK {
		t.Fatalf("%s: Root(%d) of %d items = %d, %x, %d, want %d, %x", promise, n, f.Size(), r.Size, r.Digest, e, want.Size, want.Digest)
	}
}

func hasNoRoot(t *testing.T, f *forest.Forest, n uint64) {
	t.Helper()
	if r, e := f.Root(n); r != (api.Root{}) || e != api.ErrSize {
		t.Fatalf("10.7: Root(%d) of %d items = %d, %x, %d", n, f.Size(), r.Size, r.Digest, e)
	}
}

// check holds all that a forest tells against a model, but earlier roots.
func check(t *testing.T, promise string, f *forest.Forest, m *model) {
	t.Helper()
	if f.Size() != uint64(len(m.list)) || f.Strength() != m.k {
		t.Fatalf("%s: size %d, strength %d, want %d, %d", promise, f.Size(), f.Strength(), len(m.list), m.k)
	}
	for p, d := range m.row {
		hasNode(t, promise, f, uint64(p), d)
		hasDigest(t, promise, f, m.blocks[p], d)
	}
	hasNoNode(t, f, uint64(len(m.row)))
	hasNoDigest(t, f, api.Block{H: 0, K: f.Size()})
	hasRoot(t, promise, f, f.Size(), m.root())
	hasNoRoot(t, f, f.Size()+1)
}

// spoil writes over a list and all the room behind it, and grows it.
func spoil[T any](list []T, bad T) {
	whole := list[:cap(list)]
	for i := range whole {
		whole[i] = bad
	}
	_ = append(list, bad)
}

func TestExample(t *testing.T) {
	a, b, c := leaf(32, "a"), leaf(32, "b"), leaf(32, "c")
	ab := node(32, a, b)
	f := fresh(t, 32)
	for i, want := range [][]string{{a}, {b, ab}, {c}} {
		item := "abc"[i : i+1]
		if made := appended(t, f, item); !slices.Equal(made, want) {
			t.Errorf("10.2: Append(%q) = %x, want %x", item, made, want)
		}
	}
	for p, d := range []string{a, b, ab, c} {
		hasNode(t, "10.4", f, uint64(p), d)
	}
	hasNoNode(t, f, 4)
	hasDigest(t, "10.5", f, api.Block{H: 1, K: 0}, ab)
	hasDigest(t, "10.5", f, api.Block{H: 0, K: 2}, c)
	hasNoDigest(t, f, api.Block{H: 1, K: 1})
	for n, peaks := range [][]string{nil, {a}, {ab}, {ab, c}} {
		hasRoot(t, "10.7", f, uint64(n), root(32, n, peaks))
		hasRoot(t, "10.7", f, uint64(n), api.Root{Size: uint64(n), Digest: hash.Root(32, uint64(n), peaks)})
	}
	hasNoRoot(t, f, 4)
	if _, e := f.Root(4); e != 30 {
		t.Errorf("10.7: ErrSize is %d, want 30", e)
	}
	for _, k := range []int{0, 33} {
		if f, e := forest.New(k); f != nil || e != 70 {
			t.Errorf("10.1: New(%d) = %v, %d, want nil, 70", k, f, e)
		}
	}
}

// By sha256sum: 01 and the sums of 00 61 and 00 62; 02, that and the sum of 00 63; 03, a size and its bag.
func TestKnownRoots(t *testing.T) {
	f := of(t, 32, []string{"a", "b", "c"})
	for n, digits := range []string{
		"dc4c8669df128318c5790c414c870cc76c585268552851e78d3ee8604dbec0e3",
		"bb528eaa0c7c2557619d270c12ad8f09b32c6961b2265fb5e625e8feb03e55ad",
		"f919580afadccc62e0cb76850dc081b17a8d988b70382d07a91abc850e246d68",
		"6356b7c28e03afe7a9f1ab896b8df936d1920a4e168887259c419b9c452c8e92",
	} {
		want, err := hex.DecodeString(digits)
		if err != nil {
			t.Fatal(err)
		}
		hasRoot(t, "10.7", f, uint64(n), api.Root{Size: uint64(n), Digest: string(want)})
	}
}

func TestNewOfEveryStrength(t *testing.T) {
	list := []int{math.MinInt, math.MinInt + 1, math.MinInt + 32, math.MaxInt - 1, math.MaxInt, 1<<8 + 1, 1<<32 + 8, -1<<32 + 8}
	for k := -3; k <= 36; k++ {
		list = append(list, k)
	}
	for _, k := range list {
		f, e := forest.New(k)
		if k < 1 || k > 32 {
			if f != nil || e != api.ErrStrength {
				t.Errorf("10.1: New(%d) = %v, %d", k, f, e)
			}
			continue
		}
		if f == nil || e != api.OK {
			t.Fatalf("10.1: New(%d) = %v, %d", k, f, e)
		}
		check(t, "10.1", f, modelOf(k, nil))
	}
}

// A forest without items has a root of nothing, and nothing else.
func TestNoItems(t *testing.T) {
	for k := 1; k <= 32; k++ {
		f := fresh(t, k)
		if f.Size() != 0 || f.Strength() != k {
			t.Errorf("10.3: New(%d) has the size %d, the strength %d", k, f.Size(), f.Strength())
		}
		hasRoot(t, "10.7", f, 0, api.Root{Digest: digest(k, "\x03\x00\x00\x00\x00\x00\x00\x00\x00")})
		for _, n := range numbers() {
			hasNoNode(t, f, n)
			if n > 0 {
				hasNoRoot(t, f, n)
			}
		}
		for _, b := range blocks() {
			hasNoDigest(t, f, b)
		}
		appended(t, f, "a")
		hasRoot(t, "10.7", f, 0, api.Root{Digest: digest(k, "\x03\x00\x00\x00\x00\x00\x00\x00\x00")})
	}
}

// Each Append answers the digests of just the places that are new, as many as the zeros at the new size's end, and one.
func TestAppendAnswersTheNewNodes(t *testing.T) {
	c := chance(100)
	for _, k := range []int{1, 2, 7, 31, 32} {
		list := c.items(300)
		f := fresh(t, k)
		var all []string
		for i, item := range list {
			made := appended(t, f, item)
			m := modelOf(k, list[:i+1])
			if len(made) != 1+num.Trail(uint64(i)+1) || len(made) != 1+bits.TrailingZeros(uint(i)+1) {
				t.Fatalf("10.2: Append of the item %d answers %d digests", i, len(made))
			}
			if first := len(m.row) - len(made); first != len(all) || !slices.Equal(made, m.row[first:]) {
				t.Fatalf("10.2: Append of the item %d = %x, want %x", i, made, m.row[len(all):])
			}
			if all = append(all, made...); !slices.Equal(all, m.row) {
				t.Fatalf("10.9: all Appends' digests up to the item %d are not the row", i)
			}
			if f.Size() != uint64(i)+1 || f.Strength() != k {
				t.Fatalf("10.3: behind the item %d: size %d, strength %d", i, f.Size(), f.Strength())
			}
		}
		for p, d := range all {
			hasNode(t, "10.9", f, uint64(p), d)
		}
	}
}

func TestNodeAtEveryPlace(t *testing.T) {
	list := counted(140)
	for n := range len(list) + 1 {
		f, m := of(t, 9, list[:n]), modelOf(9, list[:n])
		end, _ := place.Nodes(uint64(n))
		if uint64(len(m.row)) != end {
			t.Fatalf("10.4: %d items have %d nodes, by package place %d", n, len(m.row), end)
		}
		for p, d := range m.row {
			hasNode(t, "10.4", f, uint64(p), d)
		}
		for p := end; p < 3*end+40; p++ {
			hasNoNode(t, f, p)
		}
		for _, p := range numbers() {
			if p >= end {
				hasNoNode(t, f, p)
			}
		}
		hasNoNode(t, f, 1<<41-2)
		for _, d := range m.blocks { // right by their lowest bits alone
			p, _ := place.Of(d)
			hasNoNode(t, f, p+1<<32)
			hasNoNode(t, f, p+1<<63)
		}
	}
}

func TestDigestOfEveryBlock(t *testing.T) {
	list := counted(300)
	for _, n := range []int{1, 2, 3, 4, 5, 6, 7, 8, 15, 16, 17, 31, 64, 65, 100, 127, 128, 129, 200, 255, 256, 257, 300} {
		f, m := of(t, 5, list[:n]), modelOf(5, list[:n])
		there := 0
		for h := -1; h <= 11; h++ {
			for number := range n + 3 {
				b := api.Block{H: h, K: uint64(number)}
				if !within(b, n) {
					hasNoDigest(t, f, b)
					continue
				}
				there++
				hasDigest(t, "10.5", f, b, m.digests[b])
				if want, ok := plain.Tree(5, list[:n], b); !ok || want != m.digests[b] {
					t.Fatalf("10.5: package plain has %x, %t at (%d, %d) of %d items", want, ok, h, number, n)
				}
				p, ok := place.Of(b)
				if !ok {
					t.Fatalf("10.9: the block (%d, %d) has no place", h, number)
				}
				hasNode(t, "10.9", f, p, m.digests[b])
			}
		}
		if there != len(m.row) {
			t.Fatalf("10.5: %d blocks of %d items were asked for, want %d", there, n, len(m.row))
		}
	}
}

func TestDigestOfAnyBlock(t *testing.T) {
	all, items := full()
	for _, f := range []*forest.Forest{fresh(t, 32), of(t, 32, items[:1]), of(t, 32, items[:300]), of(t, 32, items[:1024]), all} {
		n := int(f.Size())
		for _, b := range blocks() {
			if within(b, n) {
				want, _ := plain.Tree(32, items[:n], b)
				hasDigest(t, "10.5", f, b, want)
			} else {
				hasNoDigest(t, f, b)
			}
		}
		for _, b := range []api.Block{{H: 0, K: f.Size()}, {H: -1, K: 0}, {H: 64, K: 0}, {H: 40, K: 1 << 40}, {H: 1, K: 1 << 63}, {H: 63, K: 2}, {H: 63, K: 1}, {H: 1, K: math.MaxUint64}, {H: 0, K: math.MaxUint64}} {
			hasNoDigest(t, f, b)
		}
	}
}

// A block has no digest till its last item is there.
func TestBlockInPart(t *testing.T) {
	c := chance(101)
	list := c.items(64)
	last := modelOf(4, list)
	f := fresh(t, 4)
	for n := range len(list) + 1 {
		for h := range 8 {
			for number := range 65 {
				b := api.Block{H: h, K: uint64(number)}
				if (number+1)<<h <= n {
					hasDigest(t, "10.5", f, b, last.digests[b])
				} else {
					hasNoDigest(t, f, b)
				}
			}
		}
		if n < len(list) {
			appended(t, f, list[n])
		}
	}
}

func TestDigests(t *testing.T) {
	list := counted(45)
	f, m := of(t, 6, list), modelOf(6, list)
	for _, none := range [][]api.Block{nil, {}, m.blocks[:0]} {
		if l, ok := f.Digests(none); len(l) != 0 || !ok {
			t.Errorf("10.6: Digests of none = %x, %t", l, ok)
		}
		if l, ok := fresh(t, 6).Digests(none); len(l) != 0 || !ok {
			t.Errorf("10.6: Digests of none, of no items = %x, %t", l, ok)
		}
	}
	c := chance(102)
	for count := 1; count <= 60; count++ {
		var l []api.Block
		var want []string
		for range count { // in any order, some twice
			p := c.below(len(m.row))
			l, want = append(l, m.blocks[p]), append(want, m.row[p])
		}
		if got, ok := f.Digests(l); !slices.Equal(got, want) || !ok {
			t.Fatalf("10.6: Digests(%v) = %x, %t, want %x", l, got, ok, want)
		}
		for _, bad := range []api.Block{{H: 0, K: 45}, {H: 2, K: 11}, {H: 6, K: 0}, {H: -1, K: 0}, {H: 64, K: 0}, {H: 1, K: 1 << 63}} {
			for _, at := range []int{0, count / 2, count - 1, count} {
				if got, ok := f.Digests(slices.Insert(slices.Clone(l), at, bad)); len(got) != 0 || ok {
					t.Fatalf("10.6: Digests of %d blocks with (%d, %d) at %d = %x, %t", count+1, bad.H, bad.K, at, got, ok)
				}
			}
		}
	}
	if got, ok := f.Digests(m.blocks); !slices.Equal(got, m.row) || !ok {
		t.Errorf("10.6: Digests of all blocks = %x, %t", got, ok)
	}
	one := api.Block{H: 2, K: 10}
	if got, ok := f.Digests([]api.Block{one, one, one}); !ok || !slices.Equal(got, slices.Repeat([]string{m.digests[one]}, 3)) {
		t.Errorf("10.6: Digests of one block thrice = %x, %t", got, ok)
	}
	if got, ok := f.Digests([]api.Block{{H: 0, K: 45}}); len(got) != 0 || ok {
		t.Errorf("10.6: Digests of a block that is not there = %x, %t", got, ok)
	}
}

func TestRootAtEverySize(t *testing.T) {
	c := chance(103)
	for _, k := range []int{1, 3, 32} {
		list := c.items(150)
		f := of(t, k, list)
		for n := range len(list) + 1 {
			want := modelOf(k, list[:n]).root()
			hasRoot(t, "10.7", f, uint64(n), want)
			if r, e := plain.Root(k, list, uint64(n)); r != want || e != api.OK {
				t.Fatalf("10.10: package plain has another root of %d items", n)
			}
			small := of(t, k, list[:n])
			hasRoot(t, "10.10", small, uint64(n), want)
			hasNoRoot(t, small, uint64(n)+1)
		}
		for _, n := range numbers() {
			if n > uint64(len(list)) {
				hasNoRoot(t, f, n)
			}
		}
		hasNoRoot(t, f, 151)
		hasNoRoot(t, f, 1<<40)
		hasNoRoot(t, f, 1<<40+1)
		hasNoRoot(t, f, math.MaxUint64)
	}
}

// A root hangs on the first items alone: forests that part behind them have it, one that parts within them has another.
func TestRootHangsOnItsItems(t *testing.T) {
	c := chance(104)
	list := counted(40)
	f := of(t, 32, list)
	for n := range 41 {
		want := modelOf(32, list[:n]).root()
		other := slices.Concat(list[:n], c.items(c.below(50)))
		hasRoot(t, "10.10", of(t, 32, other), uint64(n), want)
		for at := range n {
			other[at] += "!"
			if r, e := of(t, 32, other).Root(uint64(n)); r == want || e != api.OK {
				t.Fatalf("10.10: Root(%d) with another item %d = %x, %d", n, at, r.Digest, e)
			}
			other[at] = list[at]
		}
	}
	hasRoot(t, "10.10", f, 40, modelOf(32, list).root())
}

func TestEveryStrength(t *testing.T) {
	c := chance(105)
	list := c.items(37)
	for k := 1; k <= 32; k++ {
		f := fresh(t, k)
		for n, item := range list {
			for _, d := range appended(t, f, item) {
				if len(d) != k {
					t.Fatalf("10.2: Append of the item %d answers a digest of %d bytes at the strength %d", n, len(d), k)
				}
			}
		}
		check(t, "10.9", f, modelOf(k, list))
	}
}

// An item's length is held against MaxItem, and "" is an item.
func TestItemLengths(t *testing.T) {
	f := fresh(t, 32)
	long := strings.Repeat("x", longest+1)
	refused(t, f, long, api.ErrItem)
	if _, e := f.Append(long); e != 100 {
		t.Errorf("10.2: ErrItem is %d, want 100", e)
	}
	check(t, "10.2", f, modelOf(32, nil))
	list := []string{long[:longest], "", long[:longest-1], "", "\x00", strings.Repeat("\xff", longest)}
	for i, item := range list {
		if made := appended(t, f, item); made[0] != leaf(32, item) {
			t.Errorf("10.2: Append of %d bytes = %x", len(item), made)
		}
		refused(t, f, long, api.ErrItem)
		refused(t, f, strings.Repeat("y", longest+2), api.ErrItem)
		refused(t, f, strings.Repeat("y", 2*longest), api.ErrItem)
		check(t, "10.2", f, modelOf(32, list[:i+1]))
	}
}

func TestNothingAsItem(t *testing.T) {
	f := fresh(t, 32)
	for n := range 20 {
		if made := appended(t, f, ""); made[0] != digest(32, "\x00") {
			t.Errorf("10.2: Append of nothing = %x", made)
		}
		check(t, "10.2", f, modelOf(32, make([]string, n+1)))
	}
}

// At MaxItems an item that is too long is told as such, any other one as too many.
func TestMostItems(t *testing.T) {
	f, list := full()
	if f.Size() != most {
		t.Fatalf("10.2: of %d items %d were taken", most, f.Size())
	}
	for range 2 {
		refused(t, f, "x", api.ErrMany)
		refused(t, f, "", api.ErrMany)
		refused(t, f, strings.Repeat("x", longest), api.ErrMany)
		refused(t, f, strings.Repeat("x", longest+1), api.ErrItem)
	}
	if _, e := f.Append("x"); e != 101 {
		t.Errorf("10.2: ErrMany is %d, want 101", e)
	}
	m := modelOf(32, list)
	check(t, "10.2", f, m)
	hasDigest(t, "10.5", f, api.Block{H: 16, K: 0}, m.peaks[0])
	hasNoDigest(t, f, api.Block{H: 16, K: 1})
	hasNoDigest(t, f, api.Block{H: 17, K: 0})
	for _, n := range []int{0, 1, 2, 4095, 32767, 32768, 32769, 40000, 65534, 65535, 65536} {
		hasRoot(t, "10.10", f, uint64(n), modelOf(32, list[:n]).root())
	}
	hasNoRoot(t, f, most+1)
	hasNoRoot(t, f, math.MaxUint64)
	hasNoNode(t, f, 2*most-1)
}

// The last item that is taken is the number MaxItems - 1, at every strength alike.
func TestBoundOfItems(t *testing.T) {
	f := fresh(t, 1)
	for range most - 1 {
		appended(t, f, "")
	}
	refused(t, f, strings.Repeat("x", longest+1), api.ErrItem)
	hasNoDigest(t, f, api.Block{H: 16, K: 0})
	if made := appended(t, f, ""); len(made) != 17 {
		t.Errorf("10.2: the last Append answers %d digests, want 17", len(made))
	}
	refused(t, f, "", api.ErrMany)
	if _, ok := f.Digest(api.Block{H: 16, K: 0}); !ok {
		t.Error("10.5: the block of all items has no digest")
	}
}

// Refused Appends between others change nothing that comes behind.
func TestRefusedAppendsChangeNothing(t *testing.T) {
	c := chance(106)
	long := strings.Repeat("z", longest+1)
	list := c.items(70)
	f, g := fresh(t, 8), fresh(t, 8)
	for _, item := range list {
		refused(t, f, long, api.ErrItem)
		if a, b := appended(t, f, item), appended(t, g, item); !slices.Equal(a, b) {
			t.Fatalf("10.2: behind a refused Append an item answers %x, want %x", a, b)
		}
	}
	refused(t, f, long, api.ErrItem)
	check(t, "10.2", f, modelOf(8, list))
}

// With one byte two unlike items of 257 have one digest: both stand at their places.
func TestTwoItemsOfOneDigest(t *testing.T) {
	list := counted(257)
	f := of(t, 1, list)
	pairs, first := 0, map[string]int{}
	for j, item := range list {
		i, ok := first[leaf(1, item)]
		if !ok {
			first[leaf(1, item)] = j
			continue
		}
		pairs++
		for _, at := range []int{i, j} {
			hasDigest(t, "10.5", f, api.Block{H: 0, K: uint64(at)}, leaf(1, item))
			p, _ := place.Leaf(uint64(at))
			hasNode(t, "10.4", f, p, leaf(1, item))
		}
		two := of(t, 1, []string{list[i], item})
		if two.Size() != 2 {
			t.Fatalf("10.2: of two items of one digest %d are there", two.Size())
		}
		check(t, "10.9", two, modelOf(1, []string{list[i], item}))
		swapped, _ := of(t, 1, []string{item, list[i]}).Root(2)
		hasRoot(t, "10.10", two, 2, swapped)
	}
	if pairs == 0 {
		t.Error("no two items have one digest")
	}
	check(t, "10.9", f, modelOf(1, list))
}

// What was told once is told for ever, whatever is appended.
func TestNothingMoves(t *testing.T) {
	c := chance(107)
	for _, k := range []int{1, 2, 32} {
		f := fresh(t, k)
		nodes, digests, roots := map[uint64]string{}, map[api.Block]string{}, map[uint64]api.Root{}
		for n := range uint64(200) {
			roots[n], _ = f.Root(n)
			for p := uint64(0); p < 2*n; p++ {
				if d, ok := f.Node(p); ok {
					if was, told := nodes[p]; told && was != d {
						t.Fatalf("10.8: Node(%d) was %x, is %x at the size %d", p, was, d, n)
					}
					nodes[p] = d
					b, _ := place.Block(p)
					digests[b], _ = f.Digest(b)
				}
			}
			for m, was := range roots {
				hasRoot(t, "10.8", f, m, was)
			}
			appended(t, f, c.text(c.below(40)))
		}
		if len(nodes) < 390 || len(nodes) != len(digests) {
			t.Fatalf("10.8: only %d nodes and %d digests were told", len(nodes), len(digests))
		}
		for range 3000 {
			appended(t, f, c.text(c.below(40)))
		}
		for p, was := range nodes {
			hasNode(t, "10.8", f, p, was)
		}
		for b, was := range digests {
			hasDigest(t, "10.8", f, b, was)
		}
		for n, was := range roots {
			hasRoot(t, "10.8", f, n, was)
		}
	}
}

// Asking changes nothing, neither for what is there nor for what is not.
func TestAskingChangesNothing(t *testing.T) {
	list := counted(50)
	f := fresh(t, 11)
	strange := blocks()
	for n, item := range list {
		for _, b := range strange[n*50 : n*50+50] {
			f.Digest(b)
			f.Digests([]api.Block{b, {H: 0, K: 0}, b})
		}
		for h := range 5 { // some of these come later
			f.Digest(api.Block{H: h, K: uint64(n >> h)})
			f.Digest(api.Block{H: h, K: uint64(n>>h + 1)})
		}
		for p := range uint64(110) {
			f.Node(p)
		}
		f.Root(uint64(n) + 1)
		f.Root(uint64(n))
		appended(t, f, item)
		check(t, "10.8", f, modelOf(11, list[:n+1]))
	}
}

func TestAnsweredListsAreTheCallers(t *testing.T) {
	list := counted(130)
	f := fresh(t, 7)
	for n, item := range list {
		made := appended(t, f, item)
		m := modelOf(7, list[:n+1])
		first, _ := f.Digests(m.blocks)
		second, _ := f.Digests(m.blocks)
		none, _ := f.Digests(nil)
		spoil(made, "written over")
		spoil(none, "written over")
		if !slices.Equal(first, m.row) || !slices.Equal(second, m.row) {
			t.Fatalf("10.11: answers of Append and Digests at the size %d share room", n+1)
		}
		spoil(first, "written over")
		if !slices.Equal(second, m.row) {
			t.Fatalf("10.11: two answers of Digests at the size %d share room", n+1)
		}
		spoil(second, "written over")
		check(t, "10.11: answers were written over", f, m)
	}
	for n := range len(list) + 1 {
		hasRoot(t, "10.11: answers were written over", f, uint64(n), modelOf(7, list[:n]).root())
	}
}

// What was answered stays, whatever the forest does later, and whatever becomes of other answers.
func TestAnswersStay(t *testing.T) {
	list := counted(130)
	f := fresh(t, 3)
	var answers, wants [][]string
	for n, item := range list {
		ahead := modelOf(3, list[:n])
		made := appended(t, f, item)
		m := modelOf(3, list[:n+1])
		told, _ := f.Digests(m.blocks)
		answers, wants = append(answers, made, told), append(wants, m.row[len(ahead.row):], m.row)
	}
	for i, l := range answers {
		if !slices.Equal(l, wants[i]) {
			t.Fatalf("10.11: an answer became %x, was %x", l, wants[i])
		}
	}
	for i, l := range answers {
		spoil(l, "written over")
		if i+1 < len(answers) && !slices.Equal(answers[i+1], wants[i+1]) {
			t.Fatalf("10.11: the answers %d and %d share room", i, i+1)
		}
	}
	check(t, "10.11: answers were written over", f, modelOf(3, list))
}

// A list that is handed in is neither changed nor kept, nor the room behind it.
func TestHandedListStays(t *testing.T) {
	list := counted(20)
	f, m := of(t, 7, list), modelOf(7, list)
	bad := api.Block{H: 3, K: 1 << 60}
	for _, with := range []api.Block{m.blocks[3], bad} { // taken, and refused
		room := append(slices.Clone(m.blocks), with, bad, bad, bad)
		was := slices.Clone(room)
		l := room[:len(m.blocks)+1]
		got, ok := f.Digests(l)
		if !slices.Equal(room, was) {
			t.Fatal("10.11: Digests changed the list that it was handed, or the room behind it")
		}
		spoil(l, api.Block{H: 0, K: 0})
		if with == bad {
			if len(got) != 0 || ok {
				t.Errorf("10.6: Digests with one that has none = %x, %t", got, ok)
			}
		} else if !slices.Equal(got, append(slices.Clone(m.row), m.row[3])) || !ok {
			t.Errorf("10.11: an answer changed with the list that was handed in")
		}
		check(t, "10.11: the list was written over", f, m)
	}
}

// Forests in turns, of one strength and of others, have nothing in common.
func TestForestsShareNothing(t *testing.T) {
	c := chance(108)
	strengths := []int{32, 32, 1, 5}
	var forests []*forest.Forest
	lists := make([][]string, len(strengths))
	for _, k := range strengths {
		forests = append(forests, fresh(t, k))
	}
	for range 300 {
		at := c.below(len(forests))
		item := c.text(c.below(30))
		made := appended(t, forests[at], item)
		lists[at] = append(lists[at], item)
		m := modelOf(strengths[at], lists[at])
		if !slices.Equal(made, m.row[len(m.row)-len(made):]) {
			t.Fatalf("10.11: Append of one forest of several = %x", made)
		}
		spoil(made, "written over")
		for i, f := range forests {
			if f.Size() != uint64(len(lists[i])) || f.Strength() != strengths[i] {
				t.Fatalf("10.11: the forest %d has the size %d, the strength %d", i, f.Size(), f.Strength())
			}
		}
	}
	for i, f := range forests {
		check(t, "10.11", f, modelOf(strengths[i], lists[i]))
		for n := range lists[i] {
			hasRoot(t, "10.11", f, uint64(n), modelOf(strengths[i], lists[i][:n]).root())
		}
	}
}

// One of two like forests goes on, and the other stays.
func TestOneForestStays(t *testing.T) {
	list := counted(90)
	for _, n := range []int{0, 1, 3, 7, 8, 31, 64} {
		f, g := of(t, 4, list[:n]), of(t, 4, list[:n])
		for _, item := range list[n:] {
			appended(t, f, item)
		}
		check(t, "10.11: the other forest went on", g, modelOf(4, list[:n]))
		check(t, "10.11", f, modelOf(4, list))
		appended(t, g, "unlike")
		check(t, "10.11", g, modelOf(4, append(slices.Clone(list[:n]), "unlike")))
		check(t, "10.11: the other forest went on", f, modelOf(4, list))
	}
}

// A forest keeps no items: of many long ones only their digests' room stays.
func TestItemsAreNotKept(t *testing.T) {
	const count = 24
	f := fresh(t, 32)
	ahead := heap()
	for i := range count {
		appended(t, f, strings.Repeat(string(rune('a'+i)), longest))
	}
	if behind := heap(); behind > ahead+count*longest/2 {
		t.Errorf("chapter 10: %d items of MaxItem bytes take %d bytes of a forest", count, behind-ahead)
	}
	if f.Size() != count {
		t.Errorf("10.3: Size is %d", f.Size())
	}
}

// heap tells how many bytes are in use.
func heap() uint64 {
	runtime.GC()
	runtime.GC()
	var stats runtime.MemStats
	runtime.ReadMemStats(&stats)
	return stats.HeapAlloc
}

// What a call answers hangs on its arguments and on what was done to its forest, whatever else was done.
func TestOneAnswer(t *testing.T) {
	list := counted(60)
	var first []string
	for round := range 3 {
		f := fresh(t, 8)
		var all []string
		for n, item := range list {
			all = append(all, appended(t, f, item)...)
			r, _ := f.Root(uint64(n / 2))
			all = append(all, r.Digest)
			appended(t, fresh(t, 8), strconv.Itoa(round))
		}
		if round == 0 {
			first = all
		}
		if !slices.Equal(all, first) {
			t.Fatal("R11: the same calls, and other answers")
		}
	}
}
