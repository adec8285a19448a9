package light_test

import (
	"crypto/sha256"
	"encoding/binary"
	"encoding/hex"
	"fmt"
	"math"
	"math/bits"
	"runtime"
	"slices"
	"strconv"
	"strings"
	"testing"
	"time"

	"massif/api"
	"massif/batch"
	"massif/codec"
	"massif/forest"
	"massif/kin"
	"massif/light"
	"massif/path"
)

// The document's numbers of MaxItem and MaxLeaves.
const (
	longest = 1 << 20
	leaves  = 1 << 40
)

// chance gives numbers by a rule, the same ones in every run.
type chance uint64

func (c *chance) next() uint64 {
	*c = *c*6364136223846793005 + 1442695040888963407
	return uint64(*c)>>32 ^ uint64(*c)<<32
}

// below is a number from 0 to n - 1.
func (c *chance) below(n int) int {
	return int(c.next() % (1 << 32) * uint64(n) >> 32)
}

// text has n bytes of any kind, those that are no UTF-8 among them.
func (c *chance) text(n int) string {
	row := make([]byte, n)
	for i := range row {
		row[i] = byte(c.next())
	}
	return string(row)
}

// texts are count digests of strength k that no list has.
func (c *chance) texts(count, k int) []string {
	list := make([]string, count)
	for i := range list {
		list[i] = c.text(k)
	}
	return list
}

// items are n texts of up to 150 bytes, some of them nothing, some twice.
func (c *chance) items(n int) []string {
	list := make([]string, n)
	for i := range list {
		switch c.below(8) {
		case 0: // "" is an item
		case 1:
			list[i] = list[c.below(i+1)]
		default:
			list[i] = c.text(c.below(151))
		}
	}
	return list
}

// size is from 0 to MaxLeaves, of any length in bits, some of few ones, some of many.
func (c *chance) size() uint64 {
	n := c.next() >> (23 + c.below(42))
	switch c.below(4) {
	case 0:
		n &= c.next()
	case 1:
		n |= c.next() & (1<<bits.Len64(n) - 1)
	}
	return min(n, leaves)
}

// upTo is from 0 to n: anywhere, close to an end, or of n's own highest bits.
func (c *chance) upTo(n uint64) uint64 {
	switch c.below(4) {
	case 0:
		return min(n, uint64(c.below(9)))
	case 1:
		return n - min(n, uint64(c.below(9)))
	case 2:
		h := c.below(41)
		return n >> h << h
	}
	return c.next() % (n + 1)
}

// set has one number at least and at most count of them, all below n, which is not 0.
func (c *chance) set(n uint64, count int) []uint64 {
	var list []uint64
	for range count {
		list = append(list, min(c.upTo(n-1), n-1))
	}
	slices.Sort(list)
	return slices.Compact(list)
}

// counted are n items, each unlike all others.
func counted(n int) []string {
	list := make([]string, n)
	for i := range list {
		list[i] = "item " + strconv.Itoa(i)
	}
	return list
}

// digest is the first k bytes of the library's sum of a text.
func digest(k int, text string) string {
	sum := sha256.Sum256([]byte(text))
	return string(sum[:k])
}

func leaf(k int, item string) string { return digest(k, "\x00"+item) }

func first(b api.Block) uint64 { return b.K << b.H }

func end(b api.Block) uint64 { return (b.K + 1) << b.H }

func halves(b api.Block) (api.Block, api.Block) {
	return api.Block{H: b.H - 1, K: 2 * b.K}, api.Block{H: b.H - 1, K: 2*b.K + 1}
}

// mountains are the blocks of the ones of n.
func mountains(n uint64) []api.Block {
	var list []api.Block
	at := uint64(0)
	for h := 63; h >= 0; h-- {
		if n>>h&1 == 1 {
			list = append(list, api.Block{H: h, K: at >> h})
			at += 1 << h
		}
	}
	return list
}

// largest are blocks within mountains of n, found from these downwards: parted tells of a block whether only some of it may be taken, none whether nothing.
func largest(n uint64, parted, none func(api.Block) bool) []api.Block {
	var list []api.Block
	var down func(b api.Block)
	down = func(b api.Block) {
		if none(b) {
			return
		}
		if !parted(b) {
			list = append(list, b)
			return
		}
		left, right := halves(b)
		down(left)
		down(right)
	}
	for _, b := range mountains(n) {
		down(b)
	}
	return list
}

// way are the blocks beside an index up to its mountain's peak, and the other mountains.
func way(i, n uint64) []api.Block {
	var beside, others []api.Block
	for _, m := range mountains(n) {
		if i < first(m) || end(m) <= i {
			others = append(others, m)
			continue
		}
		for h := range m.H {
			beside = append(beside, api.Block{H: h, K: i>>h ^ 1})
		}
	}
	return append(beside, others...)
}

// blocks are those whose digests a proof has, by its numbers; these are well formed.
func blocks(p api.Proof) []api.Block {
	switch p.Kind {
	case 1:
		return way(p.Set[0], p.Size)
	case 2:
		has := func(b api.Block) uint64 {
			from, _ := slices.BinarySearch(p.Set, first(b))
			to, _ := slices.BinarySearch(p.Set, end(b))
			return uint64(to - from)
		}
		return largest(p.Size, func(b api.Block) bool { return has(b) > 0 }, func(b api.Block) bool { return has(b) == 1<<b.H })
	}
	behind := largest(p.Size, func(b api.Block) bool { return first(b) < p.Old }, func(b api.Block) bool { return end(b) <= p.Old })
	return append(mountains(p.Old), behind...)
}

// root is the commitment of n, if these are the nodes of blocks that are known.
func root(k int, n uint64, known map[api.Block]string) api.Root {
	var node func(b api.Block) string
	node = func(b api.Block) string {
		if d, ok := known[b]; ok {
			return d
		}
		left, right := halves(b)
		return digest(k, "\x01"+node(left)+node(right))
	}
	bag := ""
	for at, m := range slices.Backward(mountains(n)) {
		if at == bits.OnesCount64(n)-1 {
			bag = node(m)
		} else {
			bag = digest(k, "\x02"+node(m)+bag)
		}
	}
	text := string(binary.BigEndian.AppendUint64([]byte{3}, n)) + bag
	return api.Root{Size: n, Digest: digest(k, text)}
}

// known are the nodes that a proof tells.
func known(p api.Proof) map[api.Block]string {
	nodes := map[api.Block]string{}
	for at, b := range blocks(p) {
		nodes[b] = p.Digests[at]
	}
	return nodes
}

// led is the commitment to which a path or a batch leads with items of any length.
func led(p api.Proof, items []string) api.Root {
	nodes := known(p)
	for at, i := range p.Set {
		nodes[api.Block{H: 0, K: i}] = leaf(p.K, items[at])
	}
	return root(p.K, p.Size, nodes)
}

// ledTwice are the commitments to which a kin leads.
func ledTwice(p api.Proof) (old, now api.Root) {
	return root(p.K, p.Old, known(p)), root(p.K, p.Size, known(p))
}

// wantClaims is what Claims must answer, as the chapter says it, one reason behind the other.
func wantClaims(k int, c api.Root, claims []api.Claim, s string) api.Errno {
	if k < 1 || k > 32 {
		return api.ErrStrength
	}
	p, e := codec.Decode(s)
	if e != api.OK {
		return api.ErrWire
	}
	if p.Kind == 3 || p.K != k || p.Size != c.Size || len(p.Set) != len(claims) {
		return api.ErrProof
	}
	for at, i := range p.Set {
		if claims[at].Index != i || len(claims[at].Value) > longest {
			return api.ErrProof
		}
	}
	if led(p, valuesOf(claims)).Digest != c.Digest {
		return api.ErrProof
	}
	return api.OK
}

// wantKin is what Kin must answer, likewise.
func wantKin(k int, old, now api.Root, s string) api.Errno {
	if k < 1 || k > 32 {
		return api.ErrStrength
	}
	p, e := codec.Decode(s)
	if e != api.OK {
		return api.ErrWire
	}
	if p.Kind != 3 || p.K != k || p.Old != old.Size || p.Size != now.Size {
		return api.ErrProof
	}
	if r, q := ledTwice(p); r != old || q != now {
		return api.ErrProof
	}
	return api.OK
}

func valuesOf(claims []api.Claim) []string {
	var list []string
	for _, c := range claims {
		list = append(list, c.Value)
	}
	return list
}

// claimed are the claims that items stand at the numbers of a set.
func claimed(set []uint64, items []string) []api.Claim {
	var list []api.Claim
	for at, i := range set {
		list = append(list, api.Claim{Index: i, Value: items[at]})
	}
	return list
}

// archive is a forest with its items.
type archive struct {
	*forest.Forest
	list []string
}

func of(t *testing.T, k int, list []string) archive {
	t.Helper()
	f, e := forest.New(k)
	if e != api.OK {
		t.Fatalf("forest.New(%d): %d", k, e)
	}
	for _, item := range list {
		if _, e := f.Append(item); e != api.OK {
			t.Fatalf("Append: %d", e)
		}
	}
	return archive{f, list}
}

func (a archive) root(t *testing.T, n uint64) api.Root {
	t.Helper()
	r, e := a.Root(n)
	if e != api.OK {
		t.Fatalf("Root(%d): %d", n, e)
	}
	return r
}

// claims say what stands at the numbers of a set.
func (a archive) claims(set ...uint64) []api.Claim {
	var list []api.Claim
	for _, i := range set {
		list = append(list, api.Claim{Index: i, Value: a.list[i]})
	}
	return list
}

// bytes are those of a proof that came without an error.
func bytes(t *testing.T, p api.Proof, e api.Errno) string {
	t.Helper()
	if e != api.OK {
		t.Fatalf("proof: %d", e)
	}
	s, e := codec.Encode(p)
	if e != api.OK {
		t.Fatalf("Encode: %d", e)
	}
	return s
}

func (a archive) path(t *testing.T, n, i uint64) string {
	t.Helper()
	p, e := path.Prove(a.Forest, n, i)
	return bytes(t, p, e)
}

func (a archive) batch(t *testing.T, n uint64, set ...uint64) string {
	t.Helper()
	p, e := batch.Prove(a.Forest, n, set)
	return bytes(t, p, e)
}

func (a archive) kin(t *testing.T, m, n uint64) string {
	t.Helper()
	p, e := kin.Prove(a.Forest, m, n)
	return bytes(t, p, e)
}

// asked is a call of Claims that is to be made, or of Kin.
type asked struct {
	k        int
	old, now api.Root // of Claims now alone
	claims   []api.Claim
	proof    string
	isKin    bool
}

func (a asked) shown() string {
	proof := hex.EncodeToString([]byte(a.proof))
	if len(proof) > 400 {
		proof = proof[:400] + ".."
	}
	if a.isKin {
		return fmt.Sprintf("Kin(%d, %d %x, %d %x, %s)", a.k, a.old.Size, a.old.Digest, a.now.Size, a.now.Digest, proof)
	}
	var claims []string
	for _, c := range a.claims[:min(len(a.claims), 9)] {
		claims = append(claims, fmt.Sprintf("{%d %.20q, %d bytes}", c.Index, c.Value, len(c.Value)))
	}
	return fmt.Sprintf("Claims(%d, %d %x, %d claims %s, %s)", a.k, a.now.Size, a.now.Digest, len(a.claims), claims, proof)
}

func (a asked) answer() api.Errno {
	if a.isKin {
		return light.Kin(a.k, a.old, a.now, a.proof)
	}
	return light.Claims(a.k, a.now, a.claims, a.proof)
}

// want is what the chapter's words say.
func (a asked) want() api.Errno {
	if a.isKin {
		return wantKin(a.k, a.old, a.now, a.proof)
	}
	return wantClaims(a.k, a.now, a.claims, a.proof)
}

func (a asked) number() string {
	if a.isKin {
		return "P15.2"
	}
	return "P15.1"
}

func (a asked) copied() asked {
	a.claims = slices.Clone(a.claims)
	return a
}

// answers asks, and holds the answer against one.
func (a asked) answers(t *testing.T, promise, what string, want api.Errno) {
	t.Helper()
	if e := a.answer(); e != want {
		t.Fatalf("%s: %s (%s) = %d, want %d", promise, a.shown(), what, e, want)
	}
}

// answersAsHeld asks, and holds the answer against the chapter's words.
func (a asked) answersAsHeld(t *testing.T, what string) api.Errno {
	t.Helper()
	want := a.want()
	a.answers(t, a.number(), what, want)
	return want
}

func claimsOf(k int, c api.Root, claims []api.Claim, proof string) asked {
	return asked{k: k, now: c, claims: claims, proof: proof}
}

func kinOf(k int, old, now api.Root, proof string) asked {
	return asked{k: k, old: old, now: now, proof: proof, isKin: true}
}

// sets are of one, two, many and all numbers below n, which is not 0.
func sets(c *chance, n uint64) [][]uint64 {
	var all []uint64
	for i := range n {
		all = append(all, i)
	}
	list := [][]uint64{{0}, {n - 1}, {n / 2}, all, all[1:], all[:n-1], c.set(n, 2), c.set(n, 4), c.set(n, int(n))}
	if n > 1 {
		list = append(list, []uint64{0, n - 1}, []uint64{n - 2, n - 1}, []uint64{0, 1})
	}
	return slices.DeleteFunc(list, func(set []uint64) bool { return len(set) == 0 })
}

// own are calls with an archive's own proofs, of every path and kin of some sizes, and of some batches.
func (a archive) own(t *testing.T, c *chance, sizes ...uint64) []asked {
	t.Helper()
	k := a.Strength()
	var list []asked
	for _, n := range sizes {
		r := a.root(t, n)
		for i := range n {
			list = append(list, claimsOf(k, r, a.claims(i), a.path(t, n, i)))
		}
		for m := range n + 1 {
			list = append(list, kinOf(k, a.root(t, m), r, a.kin(t, m, n)))
		}
		if n > 0 {
			for _, set := range sets(c, n) {
				list = append(list, claimsOf(k, r, a.claims(set...), a.batch(t, n, set...)))
			}
		}
	}
	return list
}

// spoil writes over a list and all the room behind it, and grows it.
func spoil[T any](list []T, bad T) {
	whole := list[:cap(list)]
	for i := range whole {
		whole[i] = bad
	}
	_ = append(list, bad)
}

// turned are texts close to a digest, but not it.
func turned(d string) []string {
	list := []string{d + "\x00", "\x00" + d, d + d}
	if d != "" {
		list = append(list, "", d[1:], d[:len(d)-1])
	}
	for at := range len(d) {
		for _, by := range []byte{1, 0x80} {
			row := []byte(d)
			row[at] ^= by
			list = append(list, string(row))
		}
	}
	return list
}

func TestExamples(t *testing.T) {
	f := of(t, 32, []string{"a", "b", "c"})
	r, two, one := f.root(t, 3), f.root(t, 2), f.root(t, 1)
	b, old := f.batch(t, 3, 0, 2), f.kin(t, 2, 3)
	a, c, x := api.Claim{Index: 0, Value: "a"}, api.Claim{Index: 2, Value: "c"}, api.Claim{Index: 2, Value: "x"}
	for at, x := range []struct {
		call asked
		want api.Errno
	}{
		{claimsOf(32, r, []api.Claim{a, c}, b), 0},
		{claimsOf(32, r, []api.Claim{a}, b), 150},
		{claimsOf(32, r, []api.Claim{a, x}, b), 150},
		{claimsOf(32, r, []api.Claim{c, a}, b), 150},
		{claimsOf(32, r, []api.Claim{a, c}, b[:len(b)-1]), 140},
		{claimsOf(16, r, []api.Claim{a, c}, b), 150},
		{claimsOf(0, r, []api.Claim{a, c}, b), 70},
		{claimsOf(32, r, f.claims(1), f.path(t, 3, 1)), 0},
		{kinOf(32, two, r, old), 0},
		{kinOf(32, one, r, old), 150},
		{kinOf(32, r, two, old), 150},
		{kinOf(33, two, r, old), 70},
	} {
		x.call.answers(t, x.call.number(), "example "+strconv.Itoa(at), x.want)
		x.call.answersAsHeld(t, "example "+strconv.Itoa(at))
	}
}

// A commitment and proofs that were not made by the program: the root of "a", "b", "c" by its texts.
func TestByHand(t *testing.T) {
	for k := 1; k <= 32; k++ {
		a, b, c := leaf(k, "a"), leaf(k, "b"), leaf(k, "c")
		ab := digest(k, "\x01"+a+b)
		r := api.Root{Size: 3, Digest: digest(k, "\x03\x00\x00\x00\x00\x00\x00\x00\x03"+digest(k, "\x02"+ab+c))}
		two := api.Root{Size: 2, Digest: digest(k, "\x03\x00\x00\x00\x00\x00\x00\x00\x02"+ab)}
		none := api.Root{Size: 0, Digest: digest(k, "\x03\x00\x00\x00\x00\x00\x00\x00\x00")}
		head := func(kind byte, numbers ...byte) string { return string(append([]byte{kind, byte(k)}, numbers...)) }
		for _, x := range []asked{
			claimsOf(k, r, []api.Claim{{Index: 0, Value: "a"}}, head(1, 3, 0)+b+c),
			claimsOf(k, r, []api.Claim{{Index: 1, Value: "b"}}, head(1, 3, 1)+a+c),
			claimsOf(k, r, []api.Claim{{Index: 2, Value: "c"}}, head(1, 3, 2)+ab),
			claimsOf(k, two, []api.Claim{{Index: 1, Value: "b"}}, head(1, 2, 1)+a),
			claimsOf(k, r, []api.Claim{{Index: 0, Value: "a"}}, head(2, 3, 1, 0)+b+c),
			claimsOf(k, r, []api.Claim{{Index: 0, Value: "a"}, {Index: 2, Value: "c"}}, head(2, 3, 2, 0, 1)+b),
			claimsOf(k, r, []api.Claim{{Index: 0, Value: "a"}, {Index: 1, Value: "b"}, {Index: 2, Value: "c"}}, head(2, 3, 3, 0, 0, 0)),
			kinOf(k, two, r, head(3, 3, 2)+ab+c),
			kinOf(k, none, r, head(3, 3, 0)+ab+c),
			kinOf(k, r, r, head(3, 3, 3)+ab+c),
			kinOf(k, none, two, head(3, 2, 0)+ab),
			kinOf(k, none, none, head(3, 0, 0)),
		} {
			x.answers(t, x.number(), "by hand", api.OK)
		}
	}
}

func TestHardPlaces(t *testing.T) {
	f := of(t, 32, counted(13))
	r := f.root(t, 13)
	claimsOf(32, r, nil, "").answers(t, "P15.1", "no claims, no bytes", api.ErrWire)
	for _, s := range []string{f.path(t, 13, 4), f.batch(t, 13, 4, 5), f.kin(t, 4, 13)} {
		claimsOf(32, r, nil, s).answers(t, "P15.1", "no claims", api.ErrProof)
		claimsOf(32, r, []api.Claim{}, s).answers(t, "P15.1", "no claims", api.ErrProof)
		claimsOf(32, r, nil, s[1:]).answers(t, "P15.1", "no claims, no kind", api.ErrWire)
	}
	claimsOf(32, r, nil, "\x02\x20\x0d\x00").answers(t, "P15.1", "no claims, an empty set", api.ErrWire)
	claimsOf(32, f.root(t, 0), nil, "\x03\x20\x00\x00").answers(t, "P15.1", "no claims, a kin of nothing", api.ErrProof)
	for n := uint64(0); n <= 13; n++ {
		none, now := f.root(t, 0), f.root(t, n)
		kinOf(32, none, now, f.kin(t, 0, n)).answers(t, "P15.2", "0 and n", api.OK)
		kinOf(32, now, now, f.kin(t, n, n)).answers(t, "P15.2", "n and n", api.OK)
		other := of(t, 32, append(counted(12)[1:], "x", "y", "z")).root(t, n)
		if n > 0 {
			kinOf(32, now, other, f.kin(t, n, n)).answers(t, "P15.2", "n and n, two roots", api.ErrProof)
			kinOf(32, other, now, f.kin(t, n, n)).answers(t, "P15.2", "n and n, two roots", api.ErrProof)
			kinOf(32, other, other, f.kin(t, n, n)).answers(t, "P15.2", "n and n, another root", api.ErrProof)
		}
	}
}

// Every path and kin of many sizes, and batches of all sorts, against the forest's own commitments.
func TestOwnProofs(t *testing.T) {
	c := chance(150)
	for _, k := range []int{1, 2, 3, 8, 16, 31, 32} {
		f := of(t, k, c.items(40))
		for n := range uint64(41) {
			for _, x := range f.own(t, &c, n) {
				x.answers(t, "P15.3", "a forest's own", api.OK)
				x.answers(t, "P0.4", "a forest's own", api.OK)
			}
		}
	}
	for k := 1; k <= 32; k++ {
		f := of(t, k, c.items(21))
		for _, x := range f.own(t, &c, 1, 7, 16, 21) {
			x.answers(t, "P15.3", "a forest's own", api.OK)
			x.answersAsHeld(t, "a forest's own")
		}
	}
}

// Every batch of few items, with just its claims and with those of every other set.
func TestEveryBatchOfFew(t *testing.T) {
	for _, k := range []int{1, 16, 32} {
		f := of(t, k, counted(5))
		for n := uint64(1); n <= 5; n++ {
			r := f.root(t, n)
			for mask := 1; mask < 1<<n; mask++ {
				s := f.batch(t, n, ones(mask)...)
				for other := range 1 << n {
					want := api.ErrProof
					if other == mask {
						want = api.OK
					}
					claimsOf(k, r, f.claims(ones(other)...), s).answers(t, "P15.1", "a set", want)
				}
			}
		}
	}
}

// ones are the numbers of the bits of a mask.
func ones(mask int) []uint64 {
	var list []uint64
	for i := range 63 {
		if mask>>i&1 == 1 {
			list = append(list, uint64(i))
		}
	}
	return list
}

// Every kin against every pair of commitments.
func TestEveryKinOfFew(t *testing.T) {
	f := of(t, 32, counted(11))
	for n := range uint64(12) {
		for m := range n + 1 {
			s := f.kin(t, m, n)
			for a := range uint64(12) {
				for b := range uint64(12) {
					want := api.ErrProof
					if a == m && b == n {
						want = api.OK
					}
					kinOf(32, f.root(t, a), f.root(t, b), s).answers(t, "P15.2", fmt.Sprintf("a kin of %d and %d", m, n), want)
				}
			}
		}
	}
}

// Every path against every commitment and every claim.
func TestEveryPathOfFew(t *testing.T) {
	f := of(t, 32, counted(9))
	for n := uint64(1); n <= 9; n++ {
		for i := range n {
			s := f.path(t, n, i)
			for size := range uint64(10) {
				for at := range uint64(9) {
					for from := range uint64(9) {
						want := api.ErrProof
						if size == n && at == i && from == i {
							want = api.OK
						}
						claim := api.Claim{Index: at, Value: f.list[from]}
						claimsOf(32, f.root(t, size), []api.Claim{claim}, s).answers(t, "P15.1", "a path", want)
					}
				}
			}
		}
	}
}

// A proof's strength must be the one that is handed in, whatever the commitment is.
func TestOtherStrength(t *testing.T) {
	c := chance(151)
	list := counted(13)
	for _, k := range []int{1, 2, 16, 31, 32} {
		f := of(t, k, list)
		for _, x := range f.own(t, &c, 1, 8, 13) {
			for other := 1; other <= 32; other++ {
				if other == k {
					continue
				}
				y := x.copied()
				y.k = other
				y.answers(t, y.number(), "the proof's own commitment", api.ErrProof)
				if other > 16 { // two commitments of few bytes are not always unlike
					g := of(t, other, list)
					y.old, y.now = g.root(t, x.old.Size), g.root(t, x.now.Size)
					y.answers(t, y.number(), "the other strength's commitment", api.ErrProof)
				}
			}
		}
	}
}

// turnedRoots are commitments close to one.
func turnedRoots(r api.Root) []api.Root {
	var list []api.Root
	for _, d := range turned(r.Digest) {
		list = append(list, api.Root{Size: r.Size, Digest: d})
	}
	for _, n := range []uint64{0, r.Size - 1, r.Size + 1, 2 * r.Size, r.Size + 1<<32, r.Size | 1<<63, leaves, leaves + 1, math.MaxUint64, ^r.Size} {
		if n != r.Size {
			list = append(list, api.Root{Size: n, Digest: r.Digest})
		}
	}
	return append(list, api.Root{Size: r.Size + 1, Digest: ""})
}

func TestOtherCommitment(t *testing.T) {
	c := chance(152)
	for _, k := range []int{1, 2, 16, 32} {
		f := of(t, k, c.items(22))
		for _, x := range f.own(t, &c, 1, 6, 8, 21) {
			for _, r := range turnedRoots(x.now) {
				y := x.copied()
				y.now = r
				y.answers(t, y.number(), "the commitment turned", api.ErrProof)
				if x.isKin && x.old == x.now {
					y.old = r // even if both are turned alike
					y.answers(t, y.number(), "both commitments turned", api.ErrProof)
				}
			}
			if x.isKin {
				for _, r := range turnedRoots(x.old) {
					y := x.copied()
					y.old = r
					y.answers(t, "P15.2", "the old commitment turned", api.ErrProof)
				}
				if x.old.Size != x.now.Size {
					y := x.copied()
					y.old, y.now = x.now, x.old
					y.answers(t, "P15.2", "the commitments changed for one another", api.ErrProof)
					y.old, y.now = x.now, x.now
					y.answers(t, "P15.2", "the later one twice", api.ErrProof)
					y.old, y.now = x.old, x.old
					y.answers(t, "P15.2", "the earlier one twice", api.ErrProof)
				}
			}
		}
	}
}

// The roots of other sizes of the same forest, with their own sizes and with the proof's.
func TestOtherSizesOfTheForest(t *testing.T) {
	c := chance(153)
	f := of(t, 32, counted(17))
	for _, x := range f.own(t, &c, 1, 5, 8, 16) {
		for n := range uint64(18) {
			if n == x.now.Size {
				continue
			}
			r := f.root(t, n)
			for _, r := range []api.Root{r, {Size: x.now.Size, Digest: r.Digest}} {
				y := x.copied()
				y.now = r
				y.answers(t, y.number(), "another size's root", api.ErrProof)
			}
		}
		for n := range uint64(18) {
			if !x.isKin || n == x.old.Size {
				continue
			}
			r := f.root(t, n)
			for _, r := range []api.Root{r, {Size: x.old.Size, Digest: r.Digest}} {
				y := x.copied()
				y.old = r
				y.answers(t, "P15.2", "another size's root as the old one", api.ErrProof)
			}
		}
	}
}

// turnedClaims are lists close to one, by what was done.
func turnedClaims(list []api.Claim) map[string][]api.Claim {
	last := len(list) - 1
	all := map[string][]api.Claim{
		"none": nil, "empty": {}, "the first missing": list[1:], "the last missing": list[:last],
		"one more":      slices.Concat(list, []api.Claim{{Index: list[last].Index + 1, Value: "x"}}),
		"one ahead":     slices.Concat([]api.Claim{{}}, list),
		"all twice":     slices.Concat(list, list),
		"a zero behind": slices.Concat(list, []api.Claim{{}}),
	}
	for at := range list {
		name := " " + strconv.Itoa(at)
		all["missing"+name] = slices.Delete(slices.Clone(list), at, at+1)
		all["twice"+name] = slices.Insert(slices.Clone(list), at, list[at])
		for _, i := range []uint64{0, list[at].Index + 1, list[at].Index - 1, list[at].Index ^ 1<<40, list[at].Index | 1<<63, math.MaxUint64} {
			if i != list[at].Index {
				turned := slices.Clone(list)
				turned[at].Index = i
				all["index"+name+" to "+strconv.FormatUint(i, 10)] = turned
			}
		}
		if at > 0 {
			turned := slices.Clone(list)
			turned[at], turned[at-1] = turned[at-1], turned[at]
			all["another order"+name] = turned
			turned = slices.Clone(list)
			turned[at] = turned[at-1]
			all["the one ahead in its place"+name] = turned
		}
	}
	return all
}

// turnedValues are lists with another value, at strength 32.
func turnedValues(list []api.Claim) map[string][]api.Claim {
	all := map[string][]api.Claim{}
	for at, c := range list {
		put := func(what, value string) {
			if value != c.Value {
				turned := slices.Clone(list)
				turned[at].Value = value
				all[what+" "+strconv.Itoa(at)] = turned
			}
		}
		put("empty", "")
		put("a byte behind", c.Value+"\x00")
		put("a byte ahead", "\x00"+c.Value)
		put("its digest", leaf(32, c.Value))
		if c.Value != "" {
			put("a byte changed", "\x80"+c.Value[1:])
			put("a byte less", c.Value[1:])
		}
		for other, d := range list {
			put("the value of "+strconv.Itoa(other)+" at", d.Value)
		}
	}
	return all
}

func TestOtherClaims(t *testing.T) {
	c := chance(154)
	for _, k := range []int{1, 16, 32} {
		f := of(t, k, counted(14))
		for _, x := range f.own(t, &c, 1, 2, 8, 13) {
			if x.isKin {
				continue
			}
			for what, claims := range turnedClaims(x.claims) {
				y := x.copied()
				y.claims = claims
				y.answers(t, "P15.1", what, api.ErrProof)
			}
		}
	}
	f := of(t, 32, counted(14))
	for _, x := range f.own(t, &c, 1, 2, 8, 13) {
		if x.isKin {
			continue
		}
		for what, claims := range turnedValues(x.claims) {
			y := x.copied()
			y.claims = claims
			y.answers(t, "P15.1", what, api.ErrProof)
		}
		for at, claim := range x.claims { // its neighbour's value
			y := x.copied()
			y.claims[at].Value = f.list[claim.Index^1]
			y.answers(t, "P15.1", "its neighbour's value", api.ErrProof)
		}
	}
}

// Items of MaxItem bytes are items; a longer one is refused even where its digest would lead to the commitment.
func TestLongValues(t *testing.T) {
	long := strings.Repeat("x", longest)
	f := of(t, 32, []string{"a", long, "c"})
	r := f.root(t, 3)
	claimsOf(32, r, f.claims(1), f.path(t, 3, 1)).answers(t, "P15.1", "MaxItem bytes", api.OK)
	claimsOf(32, r, f.claims(0, 1), f.batch(t, 3, 0, 1)).answers(t, "P15.1", "MaxItem bytes", api.OK)
	for _, k := range []int{1, 32} {
		for _, more := range []int{0, 1, 2, longest} {
			want := api.ErrProof
			if more == 0 {
				want = api.OK
			}
			items := []string{"a", long + strings.Repeat("x", more), "c"}
			p := api.Proof{Kind: 1, K: k, Size: 3, Set: []uint64{1}, Digests: []string{leaf(k, "a"), leaf(k, "c")}}
			claims := []api.Claim{{Index: 1, Value: items[1]}}
			claimsOf(k, led(p, items[1:2]), claims, bytes(t, p, api.OK)).answers(t, "P15.1", "a long value", want)
			p = api.Proof{Kind: 2, K: k, Size: 3, Set: []uint64{0, 1, 2}}
			claims = []api.Claim{{Index: 0, Value: "a"}, {Index: 1, Value: items[1]}, {Index: 2, Value: "c"}}
			claimsOf(k, led(p, items), claims, bytes(t, p, api.OK)).answers(t, "P15.1", "a long value", want)
		}
	}
}

// A proof of one kind is none of another, though its digests may be the same.
func TestOtherKind(t *testing.T) {
	for _, k := range []int{1, 16, 32} {
		f := of(t, k, counted(14))
		for n := range uint64(14) {
			r := f.root(t, n)
			for m := range n + 1 {
				s := f.kin(t, m, n)
				claimsOf(k, r, nil, s).answers(t, "P15.1", "a kin, no claims", api.ErrProof)
				claimsOf(k, f.root(t, m), nil, s).answers(t, "P15.1", "a kin, no claims", api.ErrProof)
				claimsOf(k, r, f.claims(0), s).answers(t, "P15.1", "a kin", api.ErrProof)
				claimsOf(k, r, f.claims(m), s).answers(t, "P15.1", "a kin", api.ErrProof)
			}
			for i := range n {
				for _, s := range []string{f.path(t, n, i), f.batch(t, n, i)} {
					for _, m := range []uint64{0, i, n} {
						kinOf(k, f.root(t, m), r, s).answers(t, "P15.2", "no kin", api.ErrProof)
					}
				}
			}
		}
	}
}

// A path's and a batch's bytes of one number.
func TestPathAndBatch(t *testing.T) {
	c := chance(155)
	for _, k := range []int{1, 2, 16, 32} {
		f := of(t, k, c.items(35))
		for n := uint64(1); n <= 35; n++ {
			r := f.root(t, n)
			for i := range n {
				one, many := f.path(t, n, i), f.batch(t, n, i)
				if one == many {
					t.Fatalf("P15.3: the path and the batch of %d within %d are both %x", i, n, one)
				}
				claimsOf(k, r, f.claims(i), one).answers(t, "P15.3", "a path of one", api.OK)
				claimsOf(k, r, f.claims(i), many).answers(t, "P15.3", "a batch of one", api.OK)
				mixed := many[:len(many)-len(one)+4] + one[4:] // the batch's numbers with the path's digests
				claimsOf(k, r, f.claims(i), mixed).answersAsHeld(t, "a batch with a path's digests")
			}
		}
	}
}

// broken are bytes that are no proof's, made of a proof's.
func broken(s string) []string {
	list := []string{"", s + "\x00", s + "x", s + s, "\x00" + s}
	for at := range len(s) {
		list = append(list, s[:at])
	}
	for _, kind := range []string{"\x00", "\x04", "\xff"} {
		list = append(list, kind+s[1:])
	}
	for _, k := range []string{"\x00", "\x21", "\xff"} {
		list = append(list, s[:1]+k+s[2:])
	}
	return list
}

func TestBrokenBytes(t *testing.T) {
	c := chance(156)
	for _, k := range []int{1, 16, 32} {
		f := of(t, k, c.items(14))
		for _, x := range f.own(t, &c, 1, 5, 13) {
			for _, s := range broken(x.proof) {
				if _, e := codec.Decode(s); e == api.OK {
					t.Fatalf("%x is a proof", s)
				}
				y := x.copied()
				y.proof = s
				y.answers(t, y.number(), "broken bytes", api.ErrWire)
				wireFirst(t, &c, s)
			}
		}
	}
	for range 3000 {
		s := c.text(c.below(80))
		if c.below(2) == 0 && len(s) > 2 { // beyond the first bytes too
			s = string([]byte{byte(1 + c.below(3)), byte(1 + c.below(3)), byte(c.below(9))}) + s[2:]
		}
		if _, e := codec.Decode(s); e != api.OK {
			wireFirst(t, &c, s)
		}
	}
}

// wireFirst asks with bytes that are no proof's and all else by chance.
func wireFirst(t *testing.T, c *chance, s string) {
	t.Helper()
	k := 1 + c.below(32)
	claimsOf(k, c.commitment(), c.claims(), s).answers(t, "P15.1", "no proof", api.ErrWire)
	kinOf(k, c.commitment(), c.commitment(), s).answers(t, "P15.2", "no proof", api.ErrWire)
}

// commitment is any one.
func (c *chance) commitment() api.Root {
	return api.Root{Size: c.next() >> c.below(64), Digest: c.text(c.below(40))}
}

// claims are any ones.
func (c *chance) claims() []api.Claim {
	var list []api.Claim
	for range c.below(4) {
		list = append(list, api.Claim{Index: c.next() >> c.below(64), Value: c.text(c.below(20))})
	}
	return list
}

func TestNoStrength(t *testing.T) {
	c := chance(157)
	f := of(t, 32, counted(7))
	calls := f.own(t, &c, 1, 7)
	for _, k := range []int{0, -1, 33, 34, 64, 256 + 32, math.MinInt, math.MinInt + 32, math.MaxInt, math.MaxInt32, math.MinInt32, -32, 1<<32 + 32} {
		for _, x := range calls {
			x.k = k
			x.answers(t, "R4", "no strength", api.ErrStrength)
			for _, s := range []string{"", x.proof + "x", x.proof[1:], c.text(9)} {
				x.proof = s
				x.answers(t, "R4", "no strength, no proof", api.ErrStrength)
			}
		}
		claimsOf(k, api.Root{}, nil, "").answers(t, "R4", "no strength", api.ErrStrength)
		kinOf(k, api.Root{}, api.Root{}, "").answers(t, "R4", "no strength", api.ErrStrength)
		claimsOf(k, c.commitment(), c.claims(), "").answers(t, "R4", "no strength", api.ErrStrength)
		kinOf(k, c.commitment(), c.commitment(), "").answers(t, "R4", "no strength", api.ErrStrength)
	}
}

// Of several errors the one that stands first.
func TestFirstError(t *testing.T) {
	f := of(t, 32, counted(7))
	long := []api.Claim{{Index: 1 << 50, Value: strings.Repeat("x", longest+1)}}
	s := f.path(t, 7, 3)
	claimsOf(33, api.Root{}, long, s+"x").answers(t, "R1", "all wrong", api.ErrStrength)
	claimsOf(31, api.Root{}, long, s+"x").answers(t, "R1", "all but the strength wrong", api.ErrWire)
	claimsOf(31, api.Root{}, long, f.kin(t, 2, 3)+"x").answers(t, "R1", "all but the strength wrong", api.ErrWire)
	claimsOf(31, api.Root{}, long, s).answers(t, "R1", "all but the bytes wrong", api.ErrProof)
	kinOf(-1, api.Root{}, api.Root{}, s+"x").answers(t, "R1", "all wrong", api.ErrStrength)
	kinOf(1, api.Root{}, api.Root{}, s+"x").answers(t, "R1", "all but the strength wrong", api.ErrWire)
	kinOf(1, api.Root{}, api.Root{}, s).answers(t, "R1", "all but the bytes wrong", api.ErrProof)
	kinOf(1, f.root(t, 3), f.root(t, 2), f.kin(t, 2, 3)).answers(t, "R1", "all but the bytes wrong", api.ErrProof)
}

// A digest of the proof's own changed by a byte, two of them changed for one another.
func TestOtherDigests(t *testing.T) {
	c := chance(158)
	f := of(t, 32, counted(22))
	for _, x := range f.own(t, &c, 2, 7, 8, 21) {
		p, _ := codec.Decode(x.proof)
		from := len(x.proof) - 32*len(p.Digests)
		for at := from; at < len(x.proof); at++ {
			row := []byte(x.proof)
			row[at] ^= 1 << c.below(8)
			y := x.copied()
			y.proof = string(row)
			y.answers(t, y.number(), "a digest turned", api.ErrProof)
		}
		for at := 1; at < len(p.Digests); at++ {
			q := p
			q.Digests = slices.Clone(p.Digests)
			q.Digests[at], q.Digests[at-1] = q.Digests[at-1], q.Digests[at]
			y := x.copied()
			y.proof = bytes(t, q, api.OK)
			y.answers(t, y.number(), "two digests changed for one another", api.ErrProof)
		}
	}
}

// byHand is a well formed proof that no forest gave, of any size.
func (c *chance) byHand(k int) api.Proof {
	p := api.Proof{Kind: 1 + c.below(3), K: k, Size: c.size()}
	if p.Kind != 3 {
		p.Size = max(p.Size, 1)
	}
	switch p.Kind {
	case 1:
		p.Set = []uint64{min(c.upTo(p.Size-1), p.Size-1)}
	case 2:
		p.Set = c.set(p.Size, 1+c.below(6))
	case 3:
		p.Old = c.upTo(p.Size)
	}
	p.Digests = c.texts(len(blocks(p)), k)
	return p
}

// leading is a call that is to be accepted.
func leading(t *testing.T, p api.Proof, items []string) asked {
	t.Helper()
	s := bytes(t, p, api.OK)
	if p.Kind == 3 {
		old, now := ledTwice(p)
		return kinOf(p.K, old, now, s)
	}
	return claimsOf(p.K, led(p, items), claimed(p.Set, items), s)
}

// Proofs by chance of sizes up to 2^40 are accepted against that to which they lead: a checker knows no list.
func TestAnySize(t *testing.T) {
	c := chance(159)
	for range 3000 {
		p := c.byHand(1 + c.below(32))
		x := leading(t, p, c.items(len(p.Set)))
		x.answers(t, x.number(), "what it leads to", api.OK)
		if p.K > 15 {
			y := x.copied()
			y.now.Digest = turned(x.now.Digest)[c.below(6+2*p.K)]
			y.answers(t, x.number(), "another", api.ErrProof)
		}
	}
	for _, n := range []uint64{1, leaves - 1, leaves} {
		for _, p := range []api.Proof{
			{Kind: 1, K: 32, Size: n, Set: []uint64{0}}, {Kind: 1, K: 1, Size: n, Set: []uint64{n - 1}},
			{Kind: 2, K: 16, Size: n, Set: []uint64{n - 1}}, {Kind: 3, K: 32, Size: n}, {Kind: 3, K: 2, Old: n, Size: n}, {Kind: 3, K: 2, Old: n - 1, Size: n},
		} {
			p.Digests = c.texts(len(blocks(p)), p.K)
			x := leading(t, p, []string{"x"})
			x.answers(t, x.number(), "what it leads to", api.OK)
			x.now.Size++
			x.answers(t, x.number(), "one more", api.ErrProof)
		}
	}
}

// turn changes one thing of a call or two, whichever.
func (c *chance) turn(x asked) asked {
	x = x.copied()
	for range 1 + c.below(2) {
		switch c.below(8) {
		case 0:
			x.k = c.below(36) - 1
		case 1:
			x.now.Digest = c.text(len(x.now.Digest))
		case 2:
			x.now.Size += uint64(c.below(3)) - 1
		case 3:
			x.old.Digest = c.text(len(x.old.Digest))
		case 4, 5:
			row := []byte(x.proof)
			if len(row) > 0 {
				row[c.below(len(row))] = byte(c.next())
			}
			x.proof = string(row)
		case 6:
			if len(x.claims) > 0 {
				x.claims[c.below(len(x.claims))].Value = c.text(c.below(5))
			}
		case 7:
			if len(x.claims) > 0 {
				x.claims[c.below(len(x.claims))].Index = uint64(c.below(20))
			}
		}
	}
	return x
}

// Calls that are close to accepted ones, held against the chapter's words. At strength 1 some of them are accepted.
func TestTurnedCalls(t *testing.T) {
	c := chance(1510)
	seen := map[string]int{}
	for _, k := range []int{1, 2, 32} {
		f := of(t, k, c.items(16))
		var calls []asked
		for n := range uint64(17) {
			calls = append(calls, f.own(t, &c, n)...)
		}
		for range 20000 {
			x := c.turn(calls[c.below(len(calls))])
			e := x.answersAsHeld(t, "turned")
			seen[fmt.Sprintf("%s at strength %d: %d", x.number(), k, e)]++
		}
	}
	for _, what := range []string{"P15.1 at strength 1: 0", "P15.2 at strength 1: 0", "P15.1 at strength 1: 70", "P15.2 at strength 2: 140", "P15.1 at strength 32: 150", "P15.2 at strength 32: 150"} {
		if seen[what] < 20 {
			t.Errorf("only %d turned calls of %s", seen[what], what)
		}
	}
}

// At strength 1 of 257 items two have one digest: a proof of the one is accepted with the other's value.
func TestTwoItemsOfOneDigest(t *testing.T) {
	f := of(t, 1, counted(257))
	at := map[string]uint64{}
	for j, item := range f.list {
		i, ok := at[leaf(1, item)]
		at[leaf(1, item)] = uint64(j)
		if !ok {
			continue
		}
		for _, s := range []string{f.path(t, 257, i), f.batch(t, 257, i)} {
			claims := []api.Claim{{Index: i, Value: item}}
			claimsOf(1, f.root(t, 257), claims, s).answers(t, "P15.1", "another value of the same digest", api.OK)
		}
		return
	}
	t.Fatal("257 items of 257 digests at strength 1")
}

// Whatever numbers are ahead of too few digests: no more is done than what was handed in is worth.
func TestTimeAndRoom(t *testing.T) {
	proofs := []string{
		string(binary.AppendUvarint([]byte{2, 1}, leaves)) + string(binary.AppendUvarint(nil, math.MaxUint64)),
		string(binary.AppendUvarint([]byte{2, 1}, leaves)) + string(binary.AppendUvarint(nil, 1<<40)) + strings.Repeat("\x00", 1000),
		string(binary.AppendUvarint([]byte{1, 32}, leaves)) + "\x00",
		string(binary.AppendUvarint([]byte{3, 32}, leaves-1)) + "\x01",
		strings.Repeat("\xff", 1<<20), strings.Repeat("\x02", 1<<20), strings.Repeat("\x01", 1<<20), strings.Repeat("\x03", 1<<20),
	}
	began := time.Now()
	for _, s := range proofs {
		room := took(func() {
			claimsOf(32, api.Root{Size: leaves}, nil, s).answers(t, "P15.4", "great numbers", api.ErrWire)
			kinOf(32, api.Root{}, api.Root{Size: leaves}, s).answers(t, "P15.4", "great numbers", api.ErrWire)
		})
		if room > uint64(64*len(s)+1<<16) {
			t.Errorf("P15.4: %d bytes of room for a proof of %d bytes", room, len(s))
		}
	}
	if d := time.Since(began); d > 10*time.Second {
		t.Errorf("P15.4: broken proofs took %v", d)
	}
	many := make([]api.Claim, 1<<20)
	f := of(t, 32, counted(7))
	room := took(func() {
		claimsOf(32, f.root(t, 7), many, f.batch(t, 7, 0, 1)).answers(t, "P15.1", "2^20 claims", api.ErrProof)
	})
	if room > 1<<20 {
		t.Errorf("P15.4: %d bytes of room for claims that are too many", room)
	}
}

// took is how many bytes of room a call asks for.
func took(call func()) uint64 {
	var before, after runtime.MemStats
	runtime.ReadMemStats(&before)
	call()
	runtime.ReadMemStats(&after)
	return after.TotalAlloc - before.TotalAlloc
}

// A batch of many items of a forest of many.
func TestManyItems(t *testing.T) {
	c := chance(1511)
	f := of(t, 32, counted(5000))
	r := f.root(t, 4999)
	all := make([]uint64, 4999)
	for i := range all {
		all[i] = uint64(i)
	}
	some := c.set(4999, 700)
	for _, set := range [][]uint64{all, some, all[17:2501]} {
		x := claimsOf(32, r, f.claims(set...), f.batch(t, 4999, set...))
		x.answers(t, "P15.3", "many items", api.OK)
		x.claims[len(set)/2].Value += "x"
		x.answers(t, "P15.1", "one of many items turned", api.ErrProof)
	}
	for _, m := range []uint64{0, 1, 2047, 4096, 4998, 4999} {
		kinOf(32, f.root(t, m), r, f.kin(t, m, 4999)).answers(t, "P15.3", "many items", api.OK)
	}
}

// Claims that are handed in, and the room behind them, stay; what is done with them later changes no answer.
func TestHandedClaimsStay(t *testing.T) {
	c := chance(1512)
	behind := api.Claim{Index: 77, Value: "behind"}
	for _, k := range []int{1, 32} {
		f := of(t, k, counted(14))
		for _, x := range f.own(t, &c, 1, 6, 13) {
			for _, y := range []asked{x, c.turn(x)} {
				if y.isKin {
					continue
				}
				whole := make([]api.Claim, len(y.claims)+5)
				for i := range whole {
					whole[i] = behind
				}
				copy(whole, y.claims)
				handed := y
				handed.claims = whole[:len(y.claims)]
				e := handed.answer()
				if !slices.Equal(whole[:len(y.claims)], y.claims) {
					t.Fatalf("R3: %s changed its claims to %v", y.shown(), whole)
				}
				for _, c := range whole[len(y.claims):] {
					if c != behind {
						t.Fatalf("R3: %s changed the room behind its claims to %v", y.shown(), whole)
					}
				}
				spoil(whole, api.Claim{Index: 1, Value: "bad"})
				y.answers(t, "R11", "asked anew", e)
			}
		}
	}
}

func TestAskedTwice(t *testing.T) {
	c := chance(1513)
	f, g := of(t, 1, c.items(16)), of(t, 32, c.items(16))
	calls := append(f.own(t, &c, 1, 7, 16), g.own(t, &c, 1, 7, 16)...)
	for at := range len(calls) {
		calls = append(calls, c.turn(calls[at]))
	}
	var told []api.Errno
	for _, x := range calls {
		e := x.answer()
		x.answers(t, "R11", "asked twice", e)
		told = append(told, e)
	}
	for at, x := range slices.Backward(calls) { // and among the others, in another order
		x.answers(t, "R11", "asked later", told[at])
	}
}
