package codec_test

import (
	"cmp"
	"encoding/binary"
	"fmt"
	"maps"
	"math"
	"math/bits"
	"runtime"
	"slices"
	"strconv"
	"strings"
	"testing"
	"time"

	"massif/api"
	"massif/batch"
	"massif/codec"
	"massif/cover"
	"massif/forest"
	"massif/kin"
	"massif/path"
)

// The document's number of MaxLeaves.
const leaves = 1 << 40

// chance gives numbers by a rule, the same ones in every run.
type chance uint64

func (c *chance) next() uint64 {
	*c = *c*6364136223846793005 + 1442695040888963407
	return uint64(*c)>>32 ^ uint64(*c)<<32
}

// below is a number from 0 to n - 1.
func (c *chance) below(n int) int {
	return int(c.next() % (1 << 32) * uint64(n) >> 32)
}

// text has n bytes of any kind, those that are no UTF-8 among them.
func (c *chance) text(n int) string {
	row := make([]byte, n)
	for i := range row {
		row[i] = byte(c.next())
	}
	return string(row)
}

// texts are count digests of strength k.
func (c *chance) texts(count, k int) []string {
	list := make([]string, count)
	for i := range list {
		list[i] = c.text(k)
	}
	return list
}

// size is from 0 to MaxLeaves, of any length in bits, some of few ones, some of many.
func (c *chance) size() uint64 {
	n := c.next() >> (23 + c.below(42))
	switch c.below(4) {
	case 0:
		n &= c.next()
	case 1:
		n |= c.next() & (1<<bits.Len64(n) - 1)
	}
	return min(n, leaves)
}

// upTo is from 0 to n: anywhere, close to an end, or of n's own highest bits.
func (c *chance) upTo(n uint64) uint64 {
	switch c.below(4) {
	case 0:
		return min(n, uint64(c.below(9)))
	case 1:
		return n - min(n, uint64(c.below(9)))
	case 2:
		h := c.below(41)
		return n >> h << h
	}
	return c.next() % (n + 1)
}

// set has at most count numbers below n, which is not 0.
func (c *chance) set(n uint64, count int) []uint64 {
	var list []uint64
	for range count {
		i := c.upTo(n - 1)
		for range 1 + c.below(3) { // some of them side by side
			list = append(list, min(i, n-1))
			i += uint64(c.below(3))
		}
	}
	slices.Sort(list)
	list = slices.Compact(list)
	return list[:min(count, len(list))]
}

// numbered is a proof of one of the kinds, of any size, without its digests.
func (c *chance) numbered() api.Proof {
	p := api.Proof{Kind: 1 + c.below(3), K: 1 + c.below(32), Size: c.size()}
	if p.Kind != 3 {
		p.Size = max(p.Size, 1)
	}
	switch p.Kind {
	case 1:
		p.Set = []uint64{c.upTo(p.Size - 1)}
	case 2:
		p.Set = c.set(p.Size, 1+c.below(12))
	case 3:
		p.Old = c.upTo(p.Size)
	}
	return p
}

// filled is a proof with as many digests as its numbers ask for.
func (c *chance) filled(p api.Proof) api.Proof {
	p.Digests = c.texts(len(blocks(p)), p.K)
	return p
}

func (c *chance) path(k int, n, i uint64) api.Proof {
	return c.filled(api.Proof{Kind: 1, K: k, Size: n, Set: []uint64{i}})
}

func (c *chance) batch(k int, n uint64, set ...uint64) api.Proof {
	return c.filled(api.Proof{Kind: 2, K: k, Size: n, Set: set})
}

func (c *chance) kin(k int, m, n uint64) api.Proof {
	return c.filled(api.Proof{Kind: 3, K: k, Old: m, Size: n})
}

// some are proofs of all kinds, of small sizes and of great ones.
func (c *chance) some() []api.Proof {
	var list []api.Proof
	strengths := []int{1, 2, 3, 16, 31, 32}
	for at, n := range []uint64{1, 2, 3, 7, 8, 13, 100, 127, 128, 300, 1 << 20, leaves/2 + 1, leaves - 1, leaves} {
		k := strengths[at%len(strengths)]
		list = append(list, c.path(k, n, 0), c.path(k, n, n-1), c.path(k, n, c.upTo(n-1)))
		list = append(list, c.batch(k, n, 0), c.batch(k, n, n-1), c.batch(k, n, c.set(n, 2)...), c.batch(k, n, c.set(n, 5)...))
		list = append(list, c.kin(k, 0, n), c.kin(k, n, n), c.kin(k, n/2, n), c.kin(k, n-1, n))
	}
	return append(list, c.kin(1, 0, 0), c.kin(32, 0, 0), c.batch(2, 3, 0, 1, 2), c.batch(1, 5, 0, 1, 2, 3, 4))
}

func first(b api.Block) uint64 { return b.K << b.H }

func end(b api.Block) uint64 { return (b.K + 1) << b.H }

// within tells whether a block lies in another, or is it.
func within(b, whole api.Block) bool { return first(whole) <= first(b) && end(b) <= end(whole) }

func halves(b api.Block) (api.Block, api.Block) {
	return api.Block{H: b.H - 1, K: 2 * b.K}, api.Block{H: b.H - 1, K: 2*b.K + 1}
}

// mountains of n, as DOC.md's section 'Words' says it.
func mountains(n uint64) []api.Block {
	var list []api.Block
	at := uint64(0)
	for h := 63; h >= 0; h-- {
		if n>>h&1 == 1 {
			list = append(list, api.Block{H: h, K: at >> h})
			at += 1 << h
		}
	}
	return list
}

// largest are the blocks within mountains of n that lie in no greater one, of those that may be taken: found by trying every block.
func largest(n uint64, may func(api.Block) bool) []api.Block {
	var list []api.Block
	for h := 0; n>>h > 0; h++ {
		for k := range n >> h {
			b := api.Block{H: h, K: k}
			inOne := slices.ContainsFunc(mountains(n), func(m api.Block) bool { return within(b, m) })
			if inOne && may(b) {
				list = append(list, b)
			}
		}
	}
	all := slices.Clone(list)
	list = slices.DeleteFunc(list, func(b api.Block) bool {
		return slices.ContainsFunc(all, func(whole api.Block) bool { return whole != b && within(b, whole) })
	})
	slices.SortFunc(list, func(a, b api.Block) int { return cmp.Compare(first(a), first(b)) })
	return list
}

// parts are the same blocks, found from the mountains downwards: cut tells of a block whether only some of it may be taken, none whether nothing.
func parts(n uint64, cut, none func(api.Block) bool) []api.Block {
	var list []api.Block
	var down func(b api.Block)
	down = func(b api.Block) {
		if none(b) {
			return
		}
		if !cut(b) {
			list = append(list, b)
			return
		}
		left, right := halves(b)
		down(left)
		down(right)
	}
	for _, b := range mountains(n) {
		down(b)
	}
	return list
}

// behind is the cover of m to n within n.
func behind(m, n uint64) []api.Block {
	return parts(n, func(b api.Block) bool { return first(b) < m }, func(b api.Block) bool { return end(b) <= m })
}

// rest is that of a set within n.
func rest(set []uint64, n uint64) []api.Block {
	inside := func(b api.Block) uint64 {
		from, _ := slices.BinarySearch(set, first(b))
		to, _ := slices.BinarySearch(set, end(b))
		return uint64(to - from)
	}
	return parts(n, func(b api.Block) bool { return inside(b) > 0 }, func(b api.Block) bool { return inside(b) == 1<<b.H })
}

// way are the blocks beside an index up to its mountain's peak, and the other mountains.
func way(i, n uint64) []api.Block {
	var list []api.Block
	for _, m := range mountains(n) {
		if first(m) <= i && i < end(m) {
			for h := range m.H {
				list = append(list, api.Block{H: h, K: i>>h ^ 1})
			}
		}
	}
	for _, m := range mountains(n) {
		if i < first(m) || end(m) <= i {
			list = append(list, m)
		}
	}
	return list
}

// blocks are those whose digests a proof has, by its numbers; these are well formed.
func blocks(p api.Proof) []api.Block {
	switch p.Kind {
	case 1:
		return way(p.Set[0], p.Size)
	case 2:
		return rest(p.Set, p.Size)
	}
	return append(mountains(p.Old), behind(p.Old, p.Size)...)
}

// numbersHold tells whether a proof's numbers are those of a well formed one, as R5 says it.
func numbersHold(p api.Proof) bool {
	if p.K < 1 || p.K > 32 || p.Size > leaves {
		return false
	}
	for at, i := range p.Set {
		if i >= p.Size || at > 0 && i <= p.Set[at-1] {
			return false
		}
	}
	switch p.Kind {
	case 1:
		return len(p.Set) == 1 && p.Old == 0
	case 2:
		return len(p.Set) >= 1 && p.Old == 0
	case 3:
		return len(p.Set) == 0 && p.Old <= p.Size
	}
	return false
}

// holds tells whether a proof is well formed.
func holds(p api.Proof) bool {
	return numbersHold(p) && len(p.Digests) == len(blocks(p)) && !slices.ContainsFunc(p.Digests, func(d string) bool { return len(d) != p.K })
}

// laid are the bytes of a well formed proof; the library's form of a number is the document's.
func laid(p api.Proof) string {
	row := binary.AppendUvarint([]byte{byte(p.Kind), byte(p.K)}, p.Size)
	switch p.Kind {
	case 1:
		row = binary.AppendUvarint(row, p.Set[0])
	case 2:
		row = binary.AppendUvarint(row, uint64(len(p.Set)))
		for at, i := range p.Set {
			if at > 0 {
				i -= p.Set[at-1] + 1
			}
			row = binary.AppendUvarint(row, i)
		}
	case 3:
		row = binary.AppendUvarint(row, p.Old)
	}
	return string(row) + strings.Join(p.Digests, "")
}

// meant is the proof of which s is the encoding, if there is one: whatever s could mean is laid anew and held against s.
func meant(s string) (api.Proof, bool) {
	if len(s) < 2 {
		return api.Proof{}, false
	}
	row := []byte(s[2:])
	whole := true
	take := func() uint64 {
		n, length := binary.Uvarint(row)
		if length <= 0 {
			whole = false
			return 0
		}
		row = row[length:]
		return n
	}
	p := api.Proof{Kind: int(s[0]), K: int(s[1]), Size: take()}
	switch p.Kind {
	case 1:
		p.Set = []uint64{take()}
	case 2:
		for at := range min(take(), uint64(len(s))) {
			i := take()
			if at > 0 {
				i += p.Set[at-1] + 1 // what wraps doesn't rise
			}
			p.Set = append(p.Set, i)
		}
	case 3:
		p.Old = take()
	}
	for whole && p.K > 0 && len(row) >= p.K {
		p.Digests = append(p.Digests, string(row[:p.K]))
		row = row[p.K:]
	}
	if !whole || !holds(p) || laid(p) != s {
		return api.Proof{}, false
	}
	return p, true
}

// shown is a proof as text, its digests in hexadecimal digits.
func shown(p api.Proof) string {
	return fmt.Sprintf("{Kind %d, K %d, Old %d, Size %d, Set %d, Digests %x}", p.Kind, p.K, p.Old, p.Size, p.Set, p.Digests)
}

// same tells whether two proofs are alike in all fields.
func same(p, q api.Proof) bool {
	return p.Kind == q.Kind && p.K == q.K && p.Old == q.Old && p.Size == q.Size && slices.Equal(p.Set, q.Set) && slices.Equal(p.Digests, q.Digests)
}

// copied is a proof with lists of its own.
func copied(p api.Proof) api.Proof {
	p.Set, p.Digests = slices.Clone(p.Set), slices.Clone(p.Digests)
	return p
}

// numbers are at both sides of each power of two.
func numbers() []uint64 {
	list := []uint64{0, math.MaxUint64}
	for h := range 64 {
		list = append(list, 1<<h-1, 1<<h, 1<<h+1)
	}
	return list
}

func counts(t *testing.T, promise string, p api.Proof, want int) {
	t.Helper()
	if n, e := codec.Count(p); n != uint64(want) || e != api.OK {
		t.Fatalf("%s: Count(%s) = %d, %d, want %d", promise, shown(p), n, e, want)
	}
}

func countsNot(t *testing.T, what string, p api.Proof) {
	t.Helper()
	if n, e := codec.Count(p); n != 0 || e != api.ErrProof {
		t.Fatalf("P14.1: Count(%s) (%s) = %d, %d, want ErrProof", shown(p), what, n, e)
	}
}

func encodes(t *testing.T, promise string, p api.Proof, want string) {
	t.Helper()
	if s, e := codec.Encode(p); s != want || e != api.OK {
		t.Fatalf("%s: Encode(%s) = %x, %d, want %x", promise, shown(p), s, e, want)
	}
}

func encodesNot(t *testing.T, what string, p api.Proof) {
	t.Helper()
	if s, e := codec.Encode(p); s != "" || e != api.ErrProof {
		t.Fatalf("P14.1: Encode(%s) (%s) = %x, %d, want ErrProof", shown(p), what, s, e)
	}
}

func decodes(t *testing.T, promise, s string, want api.Proof) {
	t.Helper()
	if p, e := codec.Decode(s); !same(p, want) || e != api.OK {
		t.Fatalf("%s: Decode(%x) = %s, %d, want %s", promise, s, shown(p), e, shown(want))
	}
}

func decodesNot(t *testing.T, promise, s string) {
	t.Helper()
	if p, e := codec.Decode(s); !same(p, api.Proof{}) || e != api.ErrWire {
		t.Fatalf("%s: Decode(%x) = %s, %d, want ErrWire", promise, s, shown(p), e)
	}
}

// goesBothWays holds all three calls against a well formed proof.
func goesBothWays(t *testing.T, p api.Proof) {
	t.Helper()
	s := laid(p)
	counts(t, "P14.1", p, len(p.Digests))
	encodes(t, "P14.1", p, s)
	decodes(t, "P14.2", s, p)
}

// decodesAsMeant holds Decode of any text against what it means; it tells whether that is a proof.
func decodesAsMeant(t *testing.T, s string) bool {
	t.Helper()
	want, ok := meant(s)
	if !ok {
		decodesNot(t, "P14.1", s)
		return false
	}
	decodes(t, "P14.1", s, want)
	p, _ := codec.Decode(s)
	encodes(t, "P14.2", p, s)
	counts(t, "P14.1", p, len(p.Digests))
	return true
}

// spoil writes over a list and all the room behind it, and grows it.
func spoil[T any](list []T, bad T) {
	whole := list[:cap(list)]
	for i := range whole {
		whole[i] = bad
	}
	_ = append(list, bad)
}

// each is a text with a byte for each number.
func each(numbers ...byte) string { return string(numbers) }

// form is a proof and its bytes.
type form struct {
	p api.Proof
	s string
}

// forms are the chapter's, and some more laid by hand.
func forms() []form {
	x, y, z := "x", "y", "z"
	return []form{
		{api.Proof{Kind: 1, K: 1, Size: 3, Set: []uint64{0}, Digests: []string{x, y}}, each(1, 1, 3, 0) + x + y},
		{api.Proof{Kind: 2, K: 1, Size: 3, Set: []uint64{0, 2}, Digests: []string{x}}, each(2, 1, 3, 2, 0, 1) + x},
		{api.Proof{Kind: 2, K: 1, Size: 3, Set: []uint64{0, 1, 2}}, each(2, 1, 3, 3, 0, 0, 0)},
		{api.Proof{Kind: 3, K: 1, Old: 2, Size: 3, Digests: []string{x, y}}, each(3, 1, 3, 2) + x + y},
		{api.Proof{Kind: 3, K: 1}, each(3, 1, 0, 0)},
		{api.Proof{Kind: 1, K: 32, Size: 1, Set: []uint64{0}}, each(1, 32, 1, 0)},
		{api.Proof{Kind: 2, K: 32, Size: 1, Set: []uint64{0}}, each(2, 32, 1, 1, 0)},
		{api.Proof{Kind: 1, K: 2, Size: 129, Set: []uint64{128}, Digests: []string{"ab"}}, each(1, 2, 0x81, 1, 0x80, 1) + "ab"},
		{api.Proof{Kind: 2, K: 1, Size: 7, Set: []uint64{4}, Digests: []string{x, y, z}}, each(2, 1, 7, 1, 4) + x + y + z},
		{api.Proof{Kind: 2, K: 1, Size: 256, Set: []uint64{127, 255}, Digests: slices.Repeat([]string{x}, 14)}, each(2, 1, 0x80, 2, 2, 127, 127) + strings.Repeat(x, 14)},
		{api.Proof{Kind: 2, K: 1, Size: 257, Set: []uint64{127, 256}, Digests: slices.Repeat([]string{x}, 8)}, each(2, 1, 0x81, 2, 2, 127, 0x80, 1) + strings.Repeat(x, 8)},
		{api.Proof{Kind: 3, K: 3, Old: 3, Size: 7, Digests: []string{"abc", "def", "ghi", "jkl", "mno"}}, each(3, 3, 7, 3) + "abcdefghijklmno"},
		{api.Proof{Kind: 3, K: 1, Old: leaves, Size: leaves, Digests: []string{"\xff"}}, each(3, 1, 0x80, 0x80, 0x80, 0x80, 0x80, 0x20, 0x80, 0x80, 0x80, 0x80, 0x80, 0x20, 0xff)},
		{api.Proof{Kind: 1, K: 1, Size: leaves, Set: []uint64{leaves - 1}, Digests: slices.Repeat([]string{"\x00"}, 40)}, each(1, 1, 0x80, 0x80, 0x80, 0x80, 0x80, 0x20, 0xff, 0xff, 0xff, 0xff, 0xff, 0x1f) + strings.Repeat("\x00", 40)},
	}
}

func TestExamples(t *testing.T) {
	for _, f := range forms() {
		counts(t, "P14.1", f.p, len(f.p.Digests))
		encodes(t, "P14.1", f.p, f.s)
		decodes(t, "P14.1", f.s, f.p)
	}
	counts(t, "P14.1", api.Proof{Kind: 3, K: 1, Old: leaves, Size: leaves}, 1)
	counts(t, "P14.1", api.Proof{Kind: 1, K: 1, Size: leaves, Set: []uint64{leaves - 1}}, 40)
	counts(t, "P14.1", api.Proof{Kind: 2, K: 1, Size: leaves, Set: []uint64{5}}, 40)
	countsNot(t, "2^40 + 1", api.Proof{Kind: 1, K: 1, Size: leaves + 1, Set: []uint64{0}})
	for _, s := range []string{
		"", each(0), each(4, 1, 0, 0), each(1, 0, 1, 0), each(1, 33, 1, 0), each(1, 1, 1, 1), each(1, 1, 1, 0, 7),
		each(1, 1, 0x81, 0, 0), each(2, 1, 3, 0), each(3, 1, 2, 3), each(2, 1, 3, 0xff, 0xff, 0xff, 0xff, 0x0f),
	} {
		decodesNot(t, "P14.1", s)
	}
	for _, p := range []api.Proof{
		{Kind: 1, K: 1, Old: 1, Size: 3, Set: []uint64{0}, Digests: []string{"x", "y"}},
		{Kind: 3, K: 1, Old: 2, Size: 3, Set: []uint64{0}, Digests: []string{"x", "y"}},
		{Kind: 2, K: 1, Size: 3, Set: []uint64{2, 0}, Digests: []string{"x"}},
		{Kind: 2, K: 1, Size: 3, Set: []uint64{0, 1, 2}, Digests: []string{"x"}},
		{Kind: 1, K: 1, Size: 1, Set: []uint64{0}, Digests: []string{"x"}},
		{Kind: 3, K: 1, Digests: []string{"x"}},
	} {
		encodesNot(t, "an example", p)
	}
}

// Every path, every kin and every batch of small sizes: the blocks by trying every one.
func TestAllOfSmallSizes(t *testing.T) {
	c := chance(140)
	held := func(p api.Proof, list []api.Block) {
		t.Helper()
		if !slices.Equal(list, blocks(p)) {
			t.Fatalf("the blocks of %s: %v and %v", shown(p), list, blocks(p))
		}
		counts(t, "P14.1", p, len(list))
		p.K = 1 + c.below(32)
		goesBothWays(t, c.filled(p))
	}
	for n := range uint64(66) {
		for m := range n + 1 {
			held(api.Proof{Kind: 3, K: 1, Old: m, Size: n}, append(mountains(m), largest(n, func(b api.Block) bool { return first(b) >= m })...))
		}
		for i := range n {
			p := api.Proof{Kind: 1, K: 1, Size: n, Set: []uint64{i}}
			without := largest(n, func(b api.Block) bool { return i < first(b) || end(b) <= i })
			if list := blocks(p); len(list) != len(without) {
				t.Fatalf("the blocks without %d within %d: %v and %v", i, n, list, without)
			}
			held(p, blocks(p))
			p.Kind = 2
			held(p, without)
		}
	}
	for n := range uint64(12) {
		for ones := uint64(1); ones < 1<<n; ones++ {
			var set []uint64
			for i := range n {
				if ones>>i&1 == 1 {
					set = append(set, i)
				}
			}
			held(api.Proof{Kind: 2, K: 1, Size: n, Set: set}, largest(n, func(b api.Block) bool {
				return !slices.ContainsFunc(set, func(i uint64) bool { return first(b) <= i && i < end(b) })
			}))
		}
	}
}

func TestEveryStrength(t *testing.T) {
	c := chance(141)
	for k := 1; k <= 32; k++ {
		for _, n := range []uint64{1, 2, 3, 7, 8, 45, 127, 128, 300, leaves - 1, leaves} {
			goesBothWays(t, c.path(k, n, c.upTo(n-1)))
			goesBothWays(t, c.batch(k, n, c.set(n, 1+c.below(6))...))
			goesBothWays(t, c.kin(k, c.upTo(n), n))
		}
		goesBothWays(t, api.Proof{Kind: 3, K: k})
	}
}

// Sizes up to MaxLeaves: how many digests there are, by the blocks from the mountains downwards, by package cover, and by the bounds that are promised.
func TestAnySize(t *testing.T) {
	c := chance(142)
	for range 6000 {
		p := c.numbered()
		list := blocks(p)
		counts(t, "P14.1", p, len(list))
		goesBothWays(t, c.filled(p))
		n, e := codec.Count(p)
		switch p.Kind {
		case 2:
			theirs, e := cover.Rest(p.Size, p.Set)
			if e != api.OK || !slices.Equal(theirs, list) {
				t.Fatalf("Rest(%d, %d) = %v, %d, want %v", p.Size, p.Set, theirs, e, list)
			}
			if n > uint64(len(p.Set)*bits.Len64(p.Size-1)+64) {
				t.Fatalf("P0.5: a batch of %d within %d has %d digests", p.Set, p.Size, n)
			}
		case 3:
			theirs, e := cover.Range(p.Old, p.Size, p.Size)
			if e != api.OK || !slices.Equal(theirs, list[bits.OnesCount64(p.Old):]) {
				t.Fatalf("Range(%d, %d) = %v, %d, want %v", p.Old, p.Size, theirs, e, list)
			}
			if n > 128 {
				t.Fatalf("P0.5: a kin of %d and %d has %d digests", p.Old, p.Size, n)
			}
		}
		if e != api.OK {
			t.Fatal(e)
		}
	}
}

// The greatest sizes, with numbers at both ends of each mountain.
func TestGreatSizes(t *testing.T) {
	c := chance(143)
	for _, n := range []uint64{leaves, leaves - 1, leaves - 2, leaves / 2, leaves/2 + 1, leaves - leaves/4 + 1, 1 << 32, 1<<32 + 1, 1<<32 - 1, 0x5555555555, 0xaaaaaaaaaa} {
		many := []uint64{0, 1, 2, 3, n / 3, n / 2, n - 3, n - 2, n - 1, n}
		for _, b := range mountains(n) {
			many = append(many, first(b), first(b)+1, first(b)+1<<b.H/2, end(b)-1, end(b))
		}
		for _, m := range many {
			if m > n {
				continue
			}
			goesBothWays(t, c.kin(2, m, n))
			if m < n {
				goesBothWays(t, c.path(2, n, m))
				goesBothWays(t, c.batch(2, n, m))
			}
		}
		slices.Sort(many)
		many = slices.Compact(slices.DeleteFunc(many, func(i uint64) bool { return i >= n }))
		goesBothWays(t, c.batch(3, n, many...))
	}
}

// What the forests' layers prove is encoded and comes back.
func TestForestsProofs(t *testing.T) {
	c := chance(144)
	for _, k := range []int{1, 5, 32} {
		f, e := forest.New(k)
		if e != api.OK {
			t.Fatal(e)
		}
		for range 140 {
			if _, e := f.Append(c.text(c.below(20))); e != api.OK {
				t.Fatal(e)
			}
		}
		for range 400 {
			n := uint64(1 + c.below(140))
			one, e := path.Prove(f, n, c.upTo(n-1))
			many, e2 := batch.Prove(f, n, c.set(n, 1+c.below(9)))
			two, e3 := kin.Prove(f, c.upTo(n), n)
			if e != api.OK || e2 != api.OK || e3 != api.OK {
				t.Fatal(e, e2, e3)
			}
			goesBothWays(t, one)
			goesBothWays(t, many)
			goesBothWays(t, two)
		}
	}
}

// wrong are the ways in which a proof's numbers are not well formed, by their names.
func wrong(p api.Proof) map[string]func(*api.Proof) {
	list := map[string]func(*api.Proof){}
	for _, kind := range []int{0, 4, 5, -1, -p.Kind, 255, 1<<8 + p.Kind, 1<<16 + p.Kind, 1<<32 + p.Kind, -1<<32 + p.Kind, math.MinInt, math.MinInt + p.Kind, math.MaxInt, math.MaxInt - 4 + p.Kind} {
		list["Kind "+strconv.Itoa(kind)] = func(q *api.Proof) { q.Kind = kind }
	}
	for _, k := range []int{0, -1, -p.K, 33, 34, 64, 255, 1 << 8, 1<<8 + p.K, 1<<16 + p.K, 1<<32 + p.K, -1<<32 + p.K, math.MinInt, math.MinInt + p.K, math.MaxInt} {
		list["K "+strconv.Itoa(k)] = func(q *api.Proof) { q.K = k }
	}
	for _, n := range []uint64{leaves + 1, leaves + 2, 2 * leaves, 2*leaves + p.Size, 1<<48 + p.Size, 1 << 63, 1<<63 + p.Size, math.MaxUint64, math.MaxUint64 - 1} {
		list["Size "+strconv.FormatUint(n, 10)] = func(q *api.Proof) { q.Size = n }
	}
	kinds := map[int]func(api.Proof, map[string]func(*api.Proof)){1: wrongPath, 2: wrongBatch, 3: wrongKin}
	kinds[p.Kind](p, list)
	return list
}

// beyond are numbers that are not below n.
func beyond(n uint64) []uint64 {
	return []uint64{n, n + 1, 2*leaves + n - 1, 1<<48 + n - 1, 1 << 63, 1<<63 + n - 1, math.MaxUint64, math.MaxUint64 - 1}
}

func wrongPath(p api.Proof, list map[string]func(*api.Proof)) {
	withOld(p, list)
	i := p.Set[0]
	for _, set := range [][]uint64{nil, {}, {i, i}, {i, i + 1}, {0, i}, {i, i, i}} {
		list[fmt.Sprint("Set ", set)] = func(q *api.Proof) { q.Set = set }
	}
	for _, other := range beyond(p.Size) {
		list["index "+strconv.FormatUint(other, 10)] = func(q *api.Proof) { q.Set = []uint64{other} }
	}
	list["Size 0"] = func(q *api.Proof) { q.Size = 0 }
	list["Size of the index"] = func(q *api.Proof) { q.Size = i }
}

func wrongBatch(p api.Proof, list map[string]func(*api.Proof)) {
	withOld(p, list)
	list["no Set"] = func(q *api.Proof) { q.Set = nil }
	list["an empty Set"] = func(q *api.Proof) { q.Set = []uint64{} }
	for _, other := range beyond(p.Size) {
		list["one behind, "+strconv.FormatUint(other, 10)] = func(q *api.Proof) { q.Set = append(q.Set, other) }
		list["the last is "+strconv.FormatUint(other, 10)] = func(q *api.Proof) { q.Set[len(q.Set)-1] = other }
	}
	for at, i := range p.Set {
		name := " at " + strconv.Itoa(at)
		list["twice"+name] = func(q *api.Proof) { q.Set = slices.Insert(q.Set, at, i) }
		list["again at the end"+name] = func(q *api.Proof) { q.Set = append(q.Set, i) }
		if at > 0 {
			list["not rising"+name] = func(q *api.Proof) { q.Set[at-1], q.Set[at] = q.Set[at], q.Set[at-1] }
			list["0 again"+name] = func(q *api.Proof) { q.Set[at] = 0 }
			list["beyond ahead of it"+name] = func(q *api.Proof) { q.Set[at-1] = math.MaxUint64 }
		}
	}
	list["Size 0"] = func(q *api.Proof) { q.Size = 0 }
	list["Size of the last"] = func(q *api.Proof) { q.Size = p.Set[len(p.Set)-1] }
}

func wrongKin(p api.Proof, list map[string]func(*api.Proof)) {
	for _, old := range beyond(p.Size + 1) {
		list["Old "+strconv.FormatUint(old, 10)] = func(q *api.Proof) { q.Old = old }
	}
	if p.Old > 0 {
		list["Size below Old"] = func(q *api.Proof) { q.Size = p.Old - 1 }
	}
	list["Old and Size above MaxLeaves"] = func(q *api.Proof) { q.Old, q.Size = leaves+1, leaves+1 }
	for _, set := range [][]uint64{{0}, {p.Old}, {p.Size}, {math.MaxUint64}, {0, 1}, {1, 0}} {
		list[fmt.Sprint("Set ", set)] = func(q *api.Proof) { q.Set = set }
	}
}

// withOld are Olds of a kind that has none.
func withOld(p api.Proof, list map[string]func(*api.Proof)) {
	for _, old := range []uint64{1, 2, p.Size, 1 << 32, leaves, 1 << 63, math.MaxUint64} {
		list["Old "+strconv.FormatUint(old, 10)] = func(q *api.Proof) { q.Old = old }
	}
}

// short are the ways in which a proof's digests are not as its numbers ask.
func short(p api.Proof) map[string]func(*api.Proof) {
	one := strings.Repeat("d", p.K)
	list := map[string]func(*api.Proof){
		"one more at the end":       func(q *api.Proof) { q.Digests = append(q.Digests, one) },
		"one more at the beginning": func(q *api.Proof) { q.Digests = append([]string{one}, q.Digests...) },
		"nothing more at the end":   func(q *api.Proof) { q.Digests = append(q.Digests, "") },
		"a thousand":                func(q *api.Proof) { q.Digests = slices.Repeat([]string{one}, 1000) },
	}
	count := len(p.Digests)
	if count == 0 {
		return list
	}
	list["none"] = func(q *api.Proof) { q.Digests = nil }
	list["another K"] = func(q *api.Proof) { q.K = q.K%32 + 1 }
	list["all in one"] = func(q *api.Proof) { q.Digests = []string{strings.Join(q.Digests, "") + "x"} }
	for _, at := range slices.Compact([]int{0, count / 2, count - 1}) {
		name := " at " + strconv.Itoa(at)
		list["one less"+name] = func(q *api.Proof) { q.Digests = slices.Delete(q.Digests, at, at+1) }
		list["one twice"+name] = func(q *api.Proof) { q.Digests = slices.Insert(q.Digests, at, q.Digests[at]) }
		list["a byte less"+name] = func(q *api.Proof) { q.Digests[at] = q.Digests[at][1:] }
		list["a byte more"+name] = func(q *api.Proof) { q.Digests[at] += "x" }
		list["256 bytes more"+name] = func(q *api.Proof) { q.Digests[at] += strings.Repeat("x", 256) }
		list["nothing"+name] = func(q *api.Proof) { q.Digests[at] = "" }
		if at > 0 { // all of both, but the cut between them elsewhere
			list["a byte moved"+name] = func(q *api.Proof) {
				q.Digests[at-1] += q.Digests[at][:1]
				q.Digests[at] = q.Digests[at][1:]
			}
		}
	}
	return list
}

func TestNotWellFormed(t *testing.T) {
	c := chance(145)
	for _, p := range c.some() {
		goesBothWays(t, p)
		for name, change := range wrong(p) {
			q := copied(p)
			change(&q)
			if numbersHold(q) {
				t.Fatalf("%s of %s is well formed", name, shown(p))
			}
			countsNot(t, name, q)
			encodesNot(t, name, q)
			q.Digests = nil
			countsNot(t, name+", no digests", q)
			encodesNot(t, name+", no digests", q)
		}
		for name, change := range short(p) {
			q := copied(p)
			change(&q)
			if holds(q) {
				t.Fatalf("%s of %s is well formed", name, shown(p))
			}
			counts(t, "P14.1", q, len(p.Digests))
			encodesNot(t, name, q)
		}
		goesBothWays(t, p)
	}
}

// Count doesn't look at the digests, whichever they are.
func TestCountWithoutDigests(t *testing.T) {
	c := chance(146)
	for _, p := range c.some() {
		right := len(p.Digests)
		for _, digests := range [][]string{nil, {}, {""}, c.texts(right+1, p.K), c.texts(right, p.K+1), slices.Repeat([]string{"x"}, 300)} {
			p.Digests = digests
			counts(t, "P14.1", p, right)
		}
	}
}

// Numbers of one kind at a proof of another: each kind has its own fields.
func TestKindsApart(t *testing.T) {
	c := chance(147)
	seen := map[bool]int{}
	for range 20000 {
		p := c.numbered()
		p.Kind = c.below(5)
		switch c.below(4) {
		case 0:
			p.Old = c.upTo(p.Size)
		case 1:
			p.Set = append(p.Set, c.upTo(p.Size+1))
		case 2:
			p.Size = c.size()
		}
		ok := numbersHold(p)
		seen[ok]++
		if !ok {
			p.Digests = c.texts(c.below(50), max(p.K, 0))
			countsNot(t, "by chance", p)
			encodesNot(t, "by chance", p)
			continue
		}
		goesBothWays(t, c.filled(p))
	}
	if seen[true] < 1000 || seen[false] < 1000 {
		t.Errorf("of the proofs by chance %d are well formed, %d are not: not all was tried", seen[true], seen[false])
	}
}

func TestCutAndByteBehind(t *testing.T) {
	c := chance(148)
	many := c.some()
	for range 150 {
		many = append(many, c.filled(c.numbered()))
	}
	for _, p := range many {
		s, e := codec.Encode(p)
		if e != api.OK {
			t.Fatalf("P14.1: Encode(%s) = %d", shown(p), e)
		}
		for at := range len(s) {
			decodesNot(t, "P14.3", s[:at])
		}
		for _, more := range []string{"\x00", "\x01", "\x7f", "\x80", "\xff", s[:1], s[len(s)-1:], strings.Repeat("x", p.K), strings.Repeat("\x00", 2*p.K), s} {
			decodesNot(t, "P14.3", s+more)
		}
		decodes(t, "P14.2", s, p)
	}
}

// Each byte of many proofs' bytes is changed, taken out and laid twice: what is still read is what it means, and has these bytes alone.
func TestChangedBytes(t *testing.T) {
	c := chance(149)
	seen := map[bool]int{}
	many := c.some()
	for range 60 {
		many = append(many, c.filled(c.numbered()))
	}
	for _, p := range many {
		s := laid(p)
		head := len(s) - p.K*len(p.Digests)
		for at := range head {
			for b := range 256 {
				seen[decodesAsMeant(t, s[:at]+string([]byte{byte(b)})+s[at+1:])]++
				seen[decodesAsMeant(t, s[:at]+string([]byte{byte(b)})+s[at:])]++
			}
		}
		for at := 0; at < len(s); at += 1 + at/20 {
			seen[decodesAsMeant(t, s[:at]+string([]byte{^s[at]})+s[at+1:])]++
			seen[decodesAsMeant(t, s[:at]+s[at+1:])]++
			seen[decodesAsMeant(t, s[:at]+s[at:at+1]+s[at:])]++
		}
	}
	if seen[true] < 1000 || seen[false] < 1000 {
		t.Errorf("of the changed texts %d are proofs, %d are none: not all was tried", seen[true], seen[false])
	}
}

// Every text of few bytes, of those with which something begins or ends.
func TestEveryShortText(t *testing.T) {
	proofs := 0
	var grow func(s string, letters []byte, left int)
	grow = func(s string, letters []byte, left int) {
		if decodesAsMeant(t, s) {
			proofs++
		}
		if left == 0 {
			return
		}
		for _, b := range letters {
			grow(s+string([]byte{b}), letters, left-1)
		}
	}
	grow("", []byte{0, 1, 2, 3, 4, 32, 33, 127, 128, 129, 255}, 5)
	grow("", []byte{0, 1, 2, 3, 128}, 7)
	for kind := byte(1); kind <= 3; kind++ {
		for size := range byte(10) {
			grow(each(kind, 1, size), []byte{0, 1, 2, 3, 5}, 6)
			grow(each(kind, 2, size), []byte{0, 1, 4}, 7)
		}
	}
	if proofs < 1000 {
		t.Errorf("only %d of the short texts are proofs", proofs)
	}
}

// Texts by chance: such as begin like a proof, and any.
func TestTextsByChance(t *testing.T) {
	c := chance(150)
	proofs := 0
	for range 60000 {
		s := c.text(c.below(60))
		switch c.below(3) {
		case 0:
			s = each(byte(1+c.below(3)), byte(1+c.below(3)), byte(c.below(9)), byte(c.below(4))) + s[:min(len(s), c.below(9))]
		case 1:
			s = each(2, 1, byte(c.below(20)), byte(c.below(4)), byte(c.below(6)), byte(c.below(6)), byte(c.below(6))) + s[:min(len(s), c.below(9))]
		}
		if decodesAsMeant(t, s) {
			proofs++
		}
	}
	if proofs < 1000 {
		t.Errorf("only %d of the texts by chance are proofs", proofs)
	}
}

// A number has one form: with bytes that say nothing more, or beyond 2^64, it is none.
func TestNumbersInOtherForms(t *testing.T) {
	longer := func(n uint64) []string { // the same number with 1 and more bytes that say nothing
		var list []string
		row := binary.AppendUvarint(nil, n)
		for len(row) < 12 {
			row[len(row)-1] |= 128
			row = append(row, 0)
			list = append(list, string(row))
		}
		return list
	}
	beyond := []string{
		strings.Repeat("\x80", 9) + "\x02", strings.Repeat("\xff", 9) + "\x02", strings.Repeat("\xff", 9) + "\x7f", strings.Repeat("\xff", 10),
		strings.Repeat("\xff", 10) + "\x00", strings.Repeat("\x80", 10) + "\x01", strings.Repeat("\xff", 100) + "\x01", "\x83" + strings.Repeat("\x80", 8) + "\x02",
	}
	num := func(n uint64) string { return string(binary.AppendUvarint(nil, n)) }
	// Each has one number left out, of which n is the right one, and as many digests as are right behind.
	for _, x := range []struct {
		n           uint64
		ahead, then string
	}{
		{3, "\x01\x01", "\x00xy"}, {0, "\x01\x01\x03", "xy"}, {2, "\x01\x01\x03", "x"},
		{3, "\x02\x01", "\x02\x00\x01x"}, {2, "\x02\x01\x03", "\x00\x01x"}, {0, "\x02\x01\x03\x02", "\x01x"}, {1, "\x02\x01\x03\x02\x00", "x"},
		{3, "\x03\x01", "\x02xy"}, {2, "\x03\x01\x03", "xy"}, {0, "\x03\x01\x00", ""}, {0, "\x03\x01", "\x00"},
		{300, "\x01\x01", num(299) + "abcde"}, {299, "\x01\x01" + num(300), "abcde"}, {leaves, "\x03\x01" + num(leaves), "x"}, {leaves, "\x03\x01", num(leaves) + "x"},
	} {
		right := x.ahead + num(x.n) + x.then
		if !decodesAsMeant(t, right) {
			t.Fatalf("%x is no proof", right)
		}
		for _, other := range append(longer(x.n), beyond...) {
			decodesNot(t, "P14.1", x.ahead+other+x.then)
		}
		for _, n := range numbers() {
			decodesAsMeant(t, x.ahead+num(n)+x.then)
			decodesAsMeant(t, x.ahead+num(x.n+n)+x.then)
		}
	}
}

// The first two bytes are bytes, not numbers of several; and each stands for itself alone.
func TestKindAndStrength(t *testing.T) {
	c := chance(151)
	for kind := range 256 {
		for k := range 256 {
			for _, behind := range []string{"\x00\x00", "\x01\x00", "\x01\x01\x00", "\x01\x01" + c.text(k), "\x03\x00" + c.text(2*k), "\x03\x02\x00\x01" + c.text(k)} {
				decodesAsMeant(t, each(byte(kind), byte(k))+behind)
			}
		}
	}
	for _, s := range []string{"\x81\x00\x01\x01\x00", "\x01\x81\x00\x01\x00", "\x83\x00\x01\x00\x00", "\x03\xa0\x00\x00\x00"} {
		decodesNot(t, "P14.1", s)
	}
}

// An index that is not below Size, or goes past 2^64, at each place of a set.
func TestIndicesBeyond(t *testing.T) {
	c := chance(152)
	num := func(n uint64) []byte { return binary.AppendUvarint(nil, n) }
	for _, n := range []uint64{1, 2, 3, 8, 100, leaves - 1, leaves} {
		for range 40 {
			set := c.set(n, 1+c.below(6))
			p := c.batch(1, n, set...)
			for at := range set {
				least := uint64(0)
				if at > 0 {
					least = set[at-1] + 1
				}
				for _, i := range append(beyond(n), 0, least-1) {
					if least <= i && i < n {
						continue
					}
					row := slices.Concat([]byte{2, 1}, num(n), num(uint64(len(set))))
					from := uint64(0)
					for j, right := range set {
						if j == at {
							right = i
						}
						row = append(row, num(right-from)...) // to what stands ahead it leads past 2^64
						from = right + 1
					}
					decodesNot(t, "P14.1", string(row)+strings.Join(p.Digests, ""))
				}
			}
			goesBothWays(t, p)
		}
	}
	for _, i := range append(numbers(), beyond(7)...) {
		decodesAsMeant(t, "\x01\x01\x07"+string(num(i))+"xyz")
		decodesAsMeant(t, "\x03\x01\x07"+string(num(i))+"xyz")
	}
}

// Too few digests and too many, by bytes and by whole digests.
func TestDigestsTold(t *testing.T) {
	c := chance(153)
	for _, p := range c.some() {
		head := strings.TrimSuffix(laid(p), strings.Join(p.Digests, ""))
		right := p.K * len(p.Digests)
		for _, length := range []int{right - p.K, right - 1, right + 1, right + p.K, 2*right + p.K, 2*right + 1, right / 2, right + 256, right + 65536} {
			if length >= 0 && length != right {
				decodesNot(t, "P14.1", head+c.text(length))
			}
		}
	}
}

// took tells how much room a call took, of all that it asked for.
func took(call func()) uint64 {
	var was, now runtime.MemStats
	runtime.ReadMemStats(&was)
	call()
	runtime.ReadMemStats(&now)
	return now.TotalAlloc - was.TotalAlloc
}

// Bytes that tell of more indices or digests than came: such a call takes no room for them, and ends soon.
func TestToldBeyondWhatCame(t *testing.T) {
	num := func(n uint64) string { return string(binary.AppendUvarint(nil, n)) }
	began := time.Now()
	for _, count := range []uint64{1, 2, 1000, 1 << 20, 1<<32 - 1, 1 << 32, 1 << 40, 1 << 62, 1<<63 - 1, 1 << 63, math.MaxUint64} {
		for _, size := range []uint64{3, 1 << 20, leaves} {
			for _, behind := range []string{"", "\x00", strings.Repeat("\x00", 40), strings.Repeat("\x80", 40), strings.Repeat("\xff", 40)} {
				if uint64(len(behind)) >= count {
					continue
				}
				s := "\x02\x01" + num(size) + num(count) + behind
				if room := took(func() { decodesNot(t, "P14.1", s) }); room > 1<<16 {
					t.Errorf("P14.1: Decode(%x) took %d bytes of room", s, room)
				}
			}
		}
	}
	for _, s := range []string{
		"\x02\x20" + num(leaves) + "\x01\x05", "\x01\x20" + num(leaves) + "\x05", "\x03\x20" + num(leaves) + "\x01", "\x03\x20" + num(leaves-1) + num(leaves-1),
		"\x02\x20" + num(leaves) + "\x08" + strings.Repeat("\xff\xff\xff\x01", 8),
	} {
		if room := took(func() { decodesNot(t, "P14.1", s) }); room > 1<<16 {
			t.Errorf("P14.1: Decode(%x) took %d bytes of room", s, room)
		}
	}
	if took := time.Since(began); took > time.Minute {
		t.Errorf("P14.1: it took %v", took)
	}
}

// Long texts, proofs and none: time and room go by the bytes that came.
func TestLongTexts(t *testing.T) {
	c := chance(154)
	num := func(n uint64) string { return string(binary.AppendUvarint(nil, n)) }
	const many = 1 << 18
	var apart []uint64
	for i := range uint64(many / 16) {
		apart = append(apart, i<<22+c.next()%(1<<22))
	}
	var close []uint64
	for i := range uint64(many) {
		close = append(close, i)
	}
	long := []string{
		laid(c.batch(1, leaves, apart...)), laid(c.batch(32, leaves, apart...)), laid(c.batch(32, many, close...)), laid(c.batch(1, leaves, close...)),
		strings.Repeat("\x00", many), strings.Repeat("\xff", many), strings.Repeat("\x01", many), strings.Repeat("\x02", many),
		"\x02\x01" + num(leaves) + num(many) + strings.Repeat("\x00", many),          // all indices, no digest
		"\x02\x01" + num(leaves) + num(many) + strings.Repeat("\x00", many-1),        // one index less than it tells
		"\x02\x01" + num(leaves) + num(many) + strings.Repeat("\x00", many+1),        // a byte behind
		"\x02\x01" + num(many-1) + num(many) + strings.Repeat("\x00", many),          // the last one is not below Size
		"\x02\x01" + num(leaves) + num(many) + strings.Repeat("\x80", many),          // the first one has no end
		"\x02\x01" + num(leaves) + num(many/4) + strings.Repeat("\xff\xff\x01", 1e5), // far apart, few digests
		"\x01\x01\x03\x00" + strings.Repeat("x", many), "\x03\x01\x03\x02" + strings.Repeat("x", many),
	}
	for _, s := range long {
		began := time.Now()
		var p api.Proof
		var e api.Errno
		room := took(func() { p, e = codec.Decode(s) })
		if took := time.Since(began); took > time.Minute || room > uint64(64*len(s)+1<<16) {
			t.Errorf("P14.1: Decode of %d bytes took %v and %d bytes of room", len(s), took, room)
		}
		want, ok := meant(s)
		if ok != (e == api.OK) || !ok && e != api.ErrWire || !same(p, want) {
			t.Fatalf("P14.1: Decode of %d bytes, %x .. = %d, want %t", len(s), s[:20], e, ok)
		}
		if again, e := codec.Encode(p); ok && (again != s || e != api.OK) {
			t.Fatalf("P14.2: %d bytes, %x .., don't come back: %d bytes, %d", len(s), s[:20], len(again), e)
		}
	}
}

// No two proofs have one form, and no form is another's beginning.
func TestFormsApart(t *testing.T) {
	c := chance(155)
	var list []string
	for n := range uint64(9) {
		for k := 1; k <= 2; k++ {
			for m := range n + 1 {
				list = append(list, laid(c.kin(k, m, n)))
			}
			for ones := uint64(1); ones < 1<<n; ones++ {
				var set []uint64
				for i := range n {
					if ones>>i&1 == 1 {
						set = append(set, i)
					}
				}
				list = append(list, laid(c.batch(k, n, set...)))
				if len(set) == 1 {
					list = append(list, laid(c.path(k, n, set[0])))
				}
			}
		}
	}
	forms := map[string]bool{}
	for _, s := range list {
		p, e := codec.Decode(s)
		again, e2 := codec.Encode(p)
		if e != api.OK || e2 != api.OK || again != s {
			t.Fatalf("P14.2: Decode(%x) = %s, %d, and back %x, %d", s, shown(p), e, again, e2)
		}
		forms[again] = true
	}
	if len(forms) != len(list) {
		t.Errorf("P14.2: %d proofs have %d forms", len(list), len(forms))
	}
	sorted := slices.Sorted(maps.Keys(forms))
	for at := 1; at < len(sorted); at++ {
		if strings.HasPrefix(sorted[at], sorted[at-1]) {
			t.Errorf("P14.3: %x begins with %x", sorted[at], sorted[at-1])
		}
	}
}

// An empty list and a missing one are one.
func TestEmptyLists(t *testing.T) {
	c := chance(156)
	for _, m := range []uint64{0, 1, 5, leaves} {
		p := c.kin(3, m, m)
		s := laid(p)
		for _, set := range [][]uint64{nil, {}, make([]uint64, 0, 8), []uint64{1, 2}[:0]} {
			p.Set = set
			counts(t, "P14.1", p, len(p.Digests))
			encodes(t, "P14.1", p, s)
			for _, kind := range []int{1, 2} { // these have a Set: an empty one is none
				q := p
				q.Kind, q.Old, q.Digests = kind, 0, nil
				countsNot(t, "no Set", q)
				encodesNot(t, "no Set", q)
			}
		}
	}
	for _, f := range []form{
		{api.Proof{Kind: 3, K: 1}, each(3, 1, 0, 0)},
		{api.Proof{Kind: 1, K: 1, Size: 1, Set: []uint64{0}}, each(1, 1, 1, 0)},
		{api.Proof{Kind: 2, K: 1, Size: 2, Set: []uint64{0, 1}}, each(2, 1, 2, 2, 0, 0)},
	} {
		for _, digests := range [][]string{nil, {}, make([]string, 0, 8), []string{"x"}[:0]} {
			f.p.Digests = digests
			counts(t, "P14.1", f.p, 0)
			encodes(t, "P14.1", f.p, f.s)
		}
	}
}

// A proof that is read has nothing in the fields that its kind has not, whatever was read ahead of it.
func TestFieldsOfKinds(t *testing.T) {
	c := chance(157)
	for range 2000 {
		s := laid(c.filled(c.numbered()))
		p, e := codec.Decode(s)
		if e != api.OK || p.Kind != 3 && p.Old != 0 || p.Kind == 3 && len(p.Set) != 0 {
			t.Fatalf("P14.1: Decode(%x) = %s, %d", s, shown(p), e)
		}
		decodesNot(t, "P14.1", s[:len(s)-1])
		decodesNot(t, "P14.1", s+"\x00")
	}
}

// The proof that is handed in stays as it was, and so does the room behind its lists.
func TestHandedProofStays(t *testing.T) {
	c := chance(158)
	for _, p := range c.some() {
		right, numbers := len(p.Digests), len(p.Set)
		set := append(slices.Clone(p.Set), 77, 78, 79)
		digests := append(slices.Clone(p.Digests), c.texts(5, p.K)...)
		wasSet, wasDigests := slices.Clone(set), slices.Clone(digests)
		want := laid(p)
		for _, more := range []int{0, 1} { // taken, and refused
			for _, others := range []int{0, 1} {
				q := p
				q.Set, q.Digests = set[:numbers+others], digests[:right+more]
				codec.Count(q)
				codec.Encode(q)
				if !slices.Equal(set, wasSet) || !slices.Equal(digests, wasDigests) {
					t.Fatalf("R3: %s was changed, or the room behind it", shown(p))
				}
			}
		}
		p.Set, p.Digests = set[:numbers], digests[:right]
		s, e := codec.Encode(p)
		spoil(p.Set, 99)
		spoil(p.Digests, "written over")
		if s != want || e != api.OK {
			t.Fatalf("R3: Encode = %x, %d, want %x", s, e, want)
		}
		p.Set, p.Digests = wasSet[:numbers], wasDigests[:right]
		encodes(t, "R3", p, want)
	}
}

// The lists of a proof that was read are the caller's: another answer has its own.
func TestAnsweredListsAreTheCallers(t *testing.T) {
	c := chance(159)
	for _, want := range c.some() {
		s := laid(want)
		one, e := codec.Decode(s)
		two, e2 := codec.Decode(s)
		if e != api.OK || e2 != api.OK {
			t.Fatalf("P14.1: Decode(%x) = %d, %d", s, e, e2)
		}
		spoil(one.Set, 99)
		spoil(one.Digests, "written over")
		if !same(two, want) {
			t.Fatalf("R3: two answers of Decode(%x) share room", s)
		}
		spoil(two.Digests, "written over")
		spoil(two.Set, 99)
		decodes(t, "R3", s, want)
		encodes(t, "R3", want, s)
	}
}

// Asked twice, and in any turns, each call answers the same.
func TestAskedTwice(t *testing.T) {
	c := chance(160)
	var proofs []api.Proof
	var texts []string
	for _, p := range c.some() {
		q := copied(p)
		q.Digests = append(q.Digests, "x")
		r := copied(p)
		r.Kind = 4
		s := laid(p)
		proofs = append(proofs, p, q, r)
		texts = append(texts, s, s[1:], s+"x")
	}
	type answer struct {
		count  uint64
		s      string
		p      string
		errors [3]api.Errno
	}
	ask := func(at int) (a answer) {
		var p api.Proof
		a.count, a.errors[0] = codec.Count(proofs[at])
		a.s, a.errors[1] = codec.Encode(proofs[at])
		p, a.errors[2] = codec.Decode(texts[at])
		a.p = shown(p)
		return a
	}
	var first []answer
	for at := range proofs {
		first = append(first, ask(at))
	}
	for range 3000 {
		at := c.below(len(proofs))
		if a := ask(at); a != first[at] {
			t.Fatalf("R11: of %s and %x = %v, then %v", shown(proofs[at]), texts[at], first[at], a)
		}
	}
}
