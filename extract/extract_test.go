package extract_test

import (
	"crypto/sha256"
	"encoding/binary"
	"encoding/hex"
	"fmt"
	"math"
	"slices"
	"strconv"
	"strings"
	"testing"
	"time"

	"massif/api"
	"massif/batch"
	"massif/codec"
	"massif/extract"
	"massif/forest"
	"massif/hash"
	"massif/kin"
	"massif/light"
	"massif/path"
)

// The document's numbers of MaxItem and MaxLeaves.
const (
	longest = 1 << 20
	leaves  = 1 << 40
)

// chance gives numbers by a rule, the same ones in every run.
type chance uint64

func (c *chance) next() uint64 {
	*c = *c*6364136223846793005 + 1442695040888963407
	return uint64(*c)>>32 ^ uint64(*c)<<32
}

// below is a number from 0 to n - 1.
func (c *chance) below(n int) int {
	return int(c.next() % (1 << 32) * uint64(n) >> 32)
}

// text has n bytes of any kind, those that are no UTF-8 among them.
func (c *chance) text(n int) string {
	row := make([]byte, n)
	for i := range row {
		row[i] = byte(c.next())
	}
	return string(row)
}

// texts are count digests of strength k that no list has.
func (c *chance) texts(count, k int) []string {
	list := make([]string, count)
	for i := range list {
		list[i] = c.text(k)
	}
	return list
}

// items are n texts of up to 150 bytes, some of them nothing, some twice.
func (c *chance) items(n int) []string {
	list := make([]string, n)
	for i := range list {
		switch c.below(8) {
		case 0: // "" is an item
		case 1:
			list[i] = list[c.below(i+1)]
		default:
			list[i] = c.text(c.below(151))
		}
	}
	return list
}

// set has one number at least and at most count of them, all below n, which is not 0.
func (c *chance) set(n, count int) []uint64 {
	var list []uint64
	for range count {
		list = append(list, uint64(c.below(n)))
	}
	slices.Sort(list)
	return slices.Compact(list)
}

// counted are n items, each unlike all others.
func counted(n int) []string {
	list := make([]string, n)
	for i := range list {
		list[i] = "item " + strconv.Itoa(i)
	}
	return list
}

// upTo are the numbers below n.
func upTo(n int) []uint64 {
	list := make([]uint64, n)
	for i := range list {
		list[i] = uint64(i)
	}
	return list
}

// sets are of one, two, many and all numbers below n, which is not 0.
func sets(c *chance, n int) [][]uint64 {
	all := upTo(n)
	list := [][]uint64{all, all[1:], all[:n-1], c.set(n, 2), c.set(n, 4), c.set(n, n)}
	for i := range all {
		list = append(list, all[i:i+1])
	}
	if n > 1 {
		list = append(list, []uint64{0, all[n-1]}, all[n-2:], all[:2])
	}
	return slices.DeleteFunc(list, func(set []uint64) bool { return len(set) == 0 })
}

// digest is the first k bytes of the library's sum of a text.
func digest(k int, text string) string {
	sum := sha256.Sum256([]byte(text))
	return string(sum[:k])
}

func leaf(k int, item string) string { return digest(k, "\x00"+item) }

func first(b api.Block) uint64 { return b.K << b.H }

func end(b api.Block) uint64 { return (b.K + 1) << b.H }

func halves(b api.Block) (api.Block, api.Block) {
	return api.Block{H: b.H - 1, K: 2 * b.K}, api.Block{H: b.H - 1, K: 2*b.K + 1}
}

// mountains are the blocks of the ones of n.
func mountains(n uint64) []api.Block {
	var list []api.Block
	at := uint64(0)
	for h := 63; h >= 0; h-- {
		if n>>h&1 == 1 {
			list = append(list, api.Block{H: h, K: at >> h})
			at += 1 << h
		}
	}
	return list
}

// largest are blocks within mountains of n, found from these downwards: parted tells of a block whether only some of it may be taken, none whether nothing.
func largest(n uint64, parted, none func(api.Block) bool) []api.Block {
	var list []api.Block
	var down func(b api.Block)
	down = func(b api.Block) {
		if none(b) {
			return
		}
		if !parted(b) {
			list = append(list, b)
			return
		}
		left, right := halves(b)
		down(left)
		down(right)
	}
	for _, b := range mountains(n) {
		down(b)
	}
	return list
}

// way are the blocks beside an index up to its mountain's peak, and the other mountains.
func way(i, n uint64) []api.Block {
	var beside, others []api.Block
	for _, m := range mountains(n) {
		if i < first(m) || end(m) <= i {
			others = append(others, m)
			continue
		}
		for h := range m.H {
			beside = append(beside, api.Block{H: h, K: i>>h ^ 1})
		}
	}
	return append(beside, others...)
}

// within tells how many numbers of a set a block has.
func within(b api.Block, set []uint64) int {
	from, _ := slices.BinarySearch(set, first(b))
	to, _ := slices.BinarySearch(set, end(b))
	return to - from
}

// blocks are those whose digests a proof has, by its numbers; these are well formed.
func blocks(p api.Proof) []api.Block {
	switch p.Kind {
	case 1:
		return way(p.Set[0], p.Size)
	case 2:
		parted := func(b api.Block) bool { return within(b, p.Set) > 0 }
		none := func(b api.Block) bool { return within(b, p.Set) == 1<<b.H }
		return largest(p.Size, parted, none)
	}
	behind := largest(p.Size, func(b api.Block) bool { return first(b) < p.Old }, func(b api.Block) bool { return end(b) <= p.Old })
	return append(mountains(p.Old), behind...)
}

// spot is where a text stands: the root, a bag (by its number from the left) or a block.
type spot struct {
	name  string
	bag   int
	block api.Block
}

var root = spot{name: "root"}

func bag(i int) spot { return spot{name: "bag", bag: i} }

func at(b api.Block) spot { return spot{name: "block", block: b} }

// spots are all of n items, in order.
func spots(n uint64) []spot {
	list := []spot{root}
	for i := range max(len(mountains(n)), 1) - 1 {
		list = append(list, bag(i))
	}
	var down func(b api.Block)
	down = func(b api.Block) {
		list = append(list, at(b))
		if b.H > 0 {
			left, right := halves(b)
			down(left)
			down(right)
		}
	}
	for _, m := range mountains(n) {
		down(m)
	}
	return list
}

// tree is all that is known of n items: some digests of blocks, and some items.
type tree struct {
	k     int
	n     uint64
	bare  map[api.Block]string
	items map[uint64]string
}

func treeOf(k int, list []string) tree {
	t := tree{k: k, n: uint64(len(list)), items: map[uint64]string{}}
	for i, item := range list {
		t.items[uint64(i)] = item
	}
	return t
}

// proofTree is that of a well formed proof, with claims at its numbers.
func proofTree(p api.Proof, claims []api.Claim) tree {
	t := tree{p.K, p.Size, map[api.Block]string{}, map[uint64]string{}}
	for i, b := range blocks(p) {
		t.bare[b] = p.Digests[i]
	}
	for _, c := range claims {
		t.items[c.Index] = c.Value
	}
	return t
}

// block is the text of a block's node, and whether there is one.
func (t tree) block(b api.Block) (string, bool) {
	if _, ok := t.bare[b]; ok {
		return "", false
	}
	if b.H == 0 {
		item, ok := t.items[b.K]
		return "\x00" + item, ok
	}
	left, right := halves(b)
	l, ok := t.node(left)
	r, also := t.node(right)
	return "\x01" + l + r, ok && also
}

// node is a block's digest, and whether all that it is made of is known.
func (t tree) node(b api.Block) (string, bool) {
	if d, ok := t.bare[b]; ok {
		return d, true
	}
	text, ok := t.block(b)
	return digest(t.k, text), ok
}

// bagged is what the peaks from a number on are bagged to.
func (t tree) bagged(from int) string {
	list := mountains(t.n)
	if from == len(list) {
		return ""
	}
	if from == len(list)-1 {
		d, _ := t.node(list[from])
		return d
	}
	return digest(t.k, t.bagText(from))
}

func (t tree) bagText(from int) string {
	d, _ := t.node(mountains(t.n)[from])
	return "\x02" + d + t.bagged(from+1)
}

func (t tree) rootText() string {
	return string(binary.BigEndian.AppendUint64([]byte{3}, t.n)) + t.bagged(0)
}

// text is that of any spot, if there is one.
func (t tree) text(s spot) (string, bool) {
	switch s.name {
	case "root":
		return t.rootText(), true
	case "bag":
		return t.bagText(s.bag), true
	}
	return t.block(s.block)
}

func (t tree) root() api.Root {
	return api.Root{Size: t.n, Digest: digest(t.k, t.rootText())}
}

// answer is what a call tells.
type answer struct {
	a, b  string
	found bool
}

var nothing = answer{}

// firstUnlike are the first texts that two trees have at one of these spots and that are unlike.
func firstUnlike(one, two tree, where []spot) answer {
	for _, s := range where {
		a, ok := one.text(s)
		b, also := two.text(s)
		if ok && also && a != b {
			return answer{a, b, true}
		}
	}
	return nothing
}

// asked is a call of Claims that is to be made (its list is now), or of Kin.
type asked struct {
	k        int
	old, now []string
	claims   []api.Claim
	proof    string
	isKin    bool
}

func claimsOf(k int, list []string, claims []api.Claim, proof string) asked {
	return asked{k: k, now: list, claims: claims, proof: proof}
}

func kinOf(k int, old, now []string, proof string) asked {
	return asked{k: k, old: old, now: now, proof: proof, isKin: true}
}

func (a asked) number() string {
	if a.isKin {
		return "P16.2"
	}
	return "P16.1"
}

// short is a text's beginning and length.
func short(s string) string { return fmt.Sprintf("%.60x(%d)", s, len(s)) }

func shorts(list []string) string {
	var all []string
	for _, s := range list[:min(len(list), 16)] {
		all = append(all, short(s))
	}
	return strconv.Itoa(len(list)) + ": " + strings.Join(all, " ")
}

func (a asked) shown() string {
	proof := hex.EncodeToString([]byte(a.proof))
	if len(proof) > 400 {
		proof = proof[:400] + ".."
	}
	if a.isKin {
		return fmt.Sprintf("Kin(%d, [%s], [%s], %s)", a.k, shorts(a.old), shorts(a.now), proof)
	}
	var claims []string
	for _, c := range a.claims[:min(len(a.claims), 16)] {
		claims = append(claims, fmt.Sprintf("{%d %s}", c.Index, short(c.Value)))
	}
	return fmt.Sprintf("Claims(%d, [%s], %d: %s, %s)", a.k, shorts(a.now), len(a.claims), claims, proof)
}

func (a asked) answer() answer {
	if a.isKin {
		x, y, found := extract.Kin(a.k, a.old, a.now, a.proof)
		return answer{x, y, found}
	}
	x, y, found := extract.Claims(a.k, a.now, a.claims, a.proof)
	return answer{x, y, found}
}

func (a asked) copied() asked {
	a.old, a.now, a.claims = slices.Clone(a.old), slices.Clone(a.now), slices.Clone(a.claims)
	return a
}

// accepted tells what the checker says, with the lists' commitments by the document's words.
func (a asked) accepted() bool {
	if a.k < 1 || a.k > 32 {
		return false
	}
	now := treeOf(a.k, a.now).root()
	if a.isKin {
		return light.Kin(a.k, treeOf(a.k, a.old).root(), now, a.proof) == api.OK
	}
	return light.Claims(a.k, now, a.claims, a.proof) == api.OK
}

// isSo tells whether all is so that is claimed.
func (a asked) isSo() bool {
	if a.isKin {
		return len(a.old) <= len(a.now) && slices.Equal(a.old, a.now[:len(a.old)])
	}
	for _, c := range a.claims {
		if c.Index >= uint64(len(a.now)) || a.now[c.Index] != c.Value {
			return false
		}
	}
	return true
}

// want is what the chapter's words say.
func (a asked) want() answer {
	if !a.accepted() || a.isSo() {
		return nothing
	}
	p, _ := codec.Decode(a.proof)
	now, proof := treeOf(a.k, a.now), proofTree(p, a.claims)
	if !a.isKin {
		return firstUnlike(now, proof, spots(p.Size))
	}
	old, before := treeOf(a.k, a.old), proofTree(p, nil)
	before.n = p.Old
	all := spots(p.Old)
	above := slices.IndexFunc(append(all, at(api.Block{})), func(s spot) bool { return s.name == "block" })
	for _, x := range []answer{
		firstUnlike(old, before, all[:above]),
		firstUnlike(now, proof, spots(p.Size)),
		firstUnlike(old, now, all[above:]),
	} {
		if x.found {
			return x
		}
	}
	return nothing
}

// answers asks, and holds the answer against one.
func (a asked) answers(t *testing.T, promise, what string, want answer) {
	t.Helper()
	if x := a.answer(); x != want {
		t.Fatalf("%s: %s (%s) = %s, %s, %v, want %s, %s, %v", promise, a.shown(), what, short(x.a), short(x.b), x.found, short(want.a), short(want.b), want.found)
	}
}

// answersAsHeld asks, and holds the answer against the chapter's words, and against what is promised of whatever is found.
func (a asked) answersAsHeld(t *testing.T, what string) answer {
	t.Helper()
	want := a.want()
	a.answers(t, a.number(), what, want)
	if want.found != (a.accepted() && !a.isSo()) {
		t.Fatalf("P16.3, P0.6: %s (%s) finds %v", a.shown(), what, want.found)
	}
	if want.found && (want.a == want.b || hash.Of(a.k, want.a) != hash.Of(a.k, want.b) || digest(a.k, want.a) != digest(a.k, want.b)) {
		t.Fatalf("P16.3, P0.6: %s (%s) finds %s and %s", a.shown(), what, short(want.a), short(want.b))
	}
	return want
}

// archive is a forest with its items.
type archive struct {
	*forest.Forest
	list []string
}

func of(t *testing.T, k int, list []string) archive {
	t.Helper()
	f, e := forest.New(k)
	if e != api.OK {
		t.Fatalf("forest.New(%d): %d", k, e)
	}
	for _, item := range list {
		if _, e := f.Append(item); e != api.OK {
			t.Fatalf("Append: %d", e)
		}
	}
	return archive{f, list}
}

// claims say what stands at the numbers of a set.
func (a archive) claims(set ...uint64) []api.Claim {
	var list []api.Claim
	for _, i := range set {
		list = append(list, api.Claim{Index: i, Value: a.list[i]})
	}
	return list
}

// encoded are the bytes of a proof that came without an error.
func encoded(t *testing.T, p api.Proof, e api.Errno) string {
	t.Helper()
	if e != api.OK {
		t.Fatalf("proof: %d", e)
	}
	s, e := codec.Encode(p)
	if e != api.OK {
		t.Fatalf("Encode: %d", e)
	}
	return s
}

func (a archive) path(t *testing.T, i uint64) string {
	t.Helper()
	p, e := path.Prove(a.Forest, a.Size(), i)
	return encoded(t, p, e)
}

func (a archive) batch(t *testing.T, set ...uint64) string {
	t.Helper()
	p, e := batch.Prove(a.Forest, a.Size(), set)
	return encoded(t, p, e)
}

func (a archive) kin(t *testing.T, m int) string {
	t.Helper()
	p, e := kin.Prove(a.Forest, uint64(m), a.Size())
	return encoded(t, p, e)
}

// proofs are a batch of a set, and, of one number, a path too.
func (a archive) proofs(t *testing.T, set []uint64) []string {
	t.Helper()
	list := []string{a.batch(t, set...)}
	if len(set) == 1 {
		list = append(list, a.path(t, set[0]))
	}
	return list
}

// forger makes lists of a digest that is wished for: at a small strength it is soon found by trying.
type forger struct {
	*chance
	k     int
	pool  map[string][]string // items by their leaves, each to be taken once
	tries int
}

func forgerOf(c *chance, k int) *forger {
	return &forger{chance: c, k: k, pool: map[string][]string{}}
}

// item is one that was not there, with this leaf.
func (f *forger) item(d string) string {
	for len(f.pool[d]) == 0 {
		f.tries++
		item := "forged " + strconv.Itoa(f.tries)
		f.pool[leaf(f.k, item)] = append(f.pool[leaf(f.k, item)], item)
	}
	item := f.pool[d][0]
	f.pool[d] = f.pool[d][1:]
	return item
}

// two are digests that a node or a bag (by the first byte) of this digest has, with a text that is not this one.
func (f *forger) two(first, d, not string) (string, string) {
	row := []byte(first + strings.Repeat("\x00", 8))[:1+2*f.k]
	for {
		binary.LittleEndian.PutUint64(row[1:9], f.next())
		if sum := sha256.Sum256(row); string(sum[:f.k]) == d && string(row) != not {
			return string(row[1 : 1+f.k]), string(row[1+f.k:])
		}
	}
}

// grow lays other items into a block, so that it has this digest and not this text.
func (f *forger) grow(list []string, b api.Block, d, not string) {
	if b.H == 0 {
		list[b.K] = f.item(d)
		return
	}
	l, r := f.two("\x01", d, not)
	left, right := halves(b)
	f.grow(list, left, l, "")
	f.grow(list, right, r, "")
}

// growBags lays other items into all mountains from a number on, so that they are bagged to this digest, not by this text.
func (f *forger) growBags(list []string, from int, d, not string) {
	all := mountains(uint64(len(list)))
	if from == len(all)-1 {
		f.grow(list, all[from], d, "")
		return
	}
	p, q := f.two("\x02", d, not)
	f.grow(list, all[from], p, "")
	f.growBags(list, from+1, q, "")
}

// growAll lays other items everywhere, so that the root's digest is the same and its text another one: false, if it has no other text.
func (f *forger) growAll(list []string) bool {
	t := treeOf(f.k, list)
	text := t.rootText()
	head := text[:len(text)-f.k]
	for i := range 1 << (8 * f.k) {
		d := string(binary.BigEndian.AppendUint64(nil, uint64(i))[8-f.k:])
		if other := head + d; other != text && digest(f.k, other) == t.root().Digest {
			f.growBags(list, 0, d, "")
			return true
		}
	}
	return false
}

// forged is a list of the same root that has another text at a spot, and above it and outside of it the same texts; false, if there is none.
func (f *forger) forged(list []string, s spot) ([]string, bool) {
	t := treeOf(f.k, list)
	other := slices.Clone(list)
	switch s.name {
	case "root":
		return other, f.growAll(other)
	case "bag":
		f.growBags(other, s.bag, t.bagged(s.bag), t.bagText(s.bag))
	default:
		text, _ := t.block(s.block)
		f.grow(other, s.block, digest(f.k, text), text)
	}
	return other, true
}

// changed tells whether a number stands where forged lays other items.
func (s spot) changed(i, n uint64) bool {
	switch s.name {
	case "root":
		return true
	case "bag":
		return first(mountains(n)[s.bag]) <= i
	}
	return first(s.block) <= i && i < end(s.block)
}

// isIn tells whether forged lays other items at a number of the set.
func (s spot) isIn(set []uint64, n int) bool {
	return slices.ContainsFunc(set, func(i uint64) bool { return s.changed(i, uint64(n)) })
}

// textsAt are those of two lists at a spot.
func textsAt(k int, one, two []string, s spot) answer {
	a, _ := treeOf(k, one).text(s)
	b, _ := treeOf(k, two).text(s)
	return answer{a, b, true}
}

// withRoot is a list of n items whose root has another text of its digest, and a list that has it.
func (f *forger) withRoot(n int) (list, other []string) {
	for {
		list = f.items(n)
		if other, ok := f.forged(list, root); ok {
			return list, other
		}
	}
}

// forgeries calls with a list, another one that is forged at a spot, and that spot: of every spot of n items.
func (f *forger) forgeries(n int, each func(list, other []string, s spot)) {
	for _, s := range spots(uint64(n)) {
		list := f.items(n)
		other, ok := f.forged(list, s)
		if !ok {
			list, other = f.withRoot(n)
		}
		each(list, other, s)
	}
}

// twins are two unlike items of one leaf.
func (f *forger) twins() (string, string) {
	x := "twin " + strconv.Itoa(f.below(1000000))
	return x, f.item(leaf(f.k, x))
}

func TestExamples(t *testing.T) {
	c := chance(160)
	for _, k := range []int{1, 2} {
		x, y := forgerOf(&c, k).twins()
		pair := answer{"\x00" + x, "\x00" + y, true}
		claim := func(value string) []api.Claim { return []api.Claim{{Index: 0, Value: value}} }
		one := string([]byte{1, byte(k), 1, 0})
		claimsOf(k, []string{x}, claim(y), one).answers(t, "P16.1", "example", pair)
		claimsOf(k, []string{x}, claim(x), one).answers(t, "P16.1", "example", nothing)
		claimsOf(k, []string{y}, claim(x), one).answers(t, "P16.1", "example", answer{pair.b, pair.a, true})
		for _, item := range []string{x, y} {
			s := of(t, k, []string{item}).kin(t, 1)
			kinOf(k, []string{x}, []string{y}, s).answers(t, "P16.2", "example", pair)
			kinOf(k, []string{x}, []string{x}, s).answers(t, "P16.2", "example", nothing)
		}
	}
}

// The document's example 7: 257 items have two of one digest.
func TestExampleOfTheWhole(t *testing.T) {
	list := counted(257)
	had := map[string]int{}
	for i, item := range list {
		other, ok := had[leaf(1, item)]
		had[leaf(1, item)] = i
		if !ok {
			continue
		}
		f := of(t, 1, list)
		claim := []api.Claim{{Index: uint64(i), Value: list[other]}}
		for _, s := range f.proofs(t, []uint64{uint64(i)}) {
			want := answer{"\x00" + item, "\x00" + list[other], true}
			claimsOf(1, list, claim, s).answers(t, "P16.1", "257 items", want)
		}
		return
	}
	t.Fatal("257 items have 257 digests of one byte")
}

// forgedSizes are how many items are forged at a strength, by how long it takes to try.
func forgedSizes(k int) []int {
	if k == 1 {
		return []int{1, 2, 3, 4, 5, 6, 7, 8, 11, 13, 16, 21}
	}
	return []int{1, 2, 3, 7, 8, 13}
}

// Lists that have one text at a spot and another of its digest, wherever it is: the root, a bag, a peak, a node, a leaf. Proofs of the one are accepted against the other.
func TestForgedClaims(t *testing.T) {
	c := chance(161)
	for _, k := range []int{1, 2} {
		f := forgerOf(&c, k)
		for _, n := range forgedSizes(k) {
			f.forgeries(n, func(list, other []string, s spot) {
				g := of(t, k, other)
				for _, set := range sets(&c, n) {
					want := nothing // where all numbers of the set stand elsewhere
					if s.isIn(set, n) {
						want = textsAt(k, list, other, s)
					}
					for _, proof := range g.proofs(t, set) {
						x := claimsOf(k, list, g.claims(set...), proof)
						if !x.accepted() {
							t.Fatalf("%s is not accepted", x.shown())
						}
						x.answers(t, "P16.1", fmt.Sprintf("forged at %v", s), want)
						x.answersAsHeld(t, fmt.Sprintf("forged at %v", s))
					}
				}
			})
		}
	}
}

// Every set of few numbers, with a forgery at every spot.
func TestEverySetOfFew(t *testing.T) {
	c := chance(162)
	f := forgerOf(&c, 1)
	for n := 1; n <= 7; n++ {
		f.forgeries(n, func(list, other []string, s spot) {
			g := of(t, 1, other)
			for mask := 1; mask < 1<<n; mask++ {
				set := slices.DeleteFunc(upTo(n), func(i uint64) bool { return mask>>i&1 == 0 })
				want := nothing
				if s.isIn(set, n) {
					want = textsAt(1, list, other, s)
				}
				claimsOf(1, list, g.claims(set...), g.batch(t, set...)).answers(t, "P16.1", fmt.Sprintf("forged at %v", s), want)
			}
		})
	}
}

// Of two forgeries the one that stands first in order is told, if both are above a number of the set.
func TestFirstOfTwo(t *testing.T) {
	c := chance(163)
	f := forgerOf(&c, 1)
	for _, n := range []int{2, 3, 6, 7, 8, 13} {
		all := spots(uint64(n))
		for at, s := range all {
			for _, later := range all[at+1:] {
				list := f.items(n)
				inner, ok := f.forged(list, later)
				other, also := f.forged(inner, s) // of one within the other only the outer one stays
				if !ok || !also || textsAt(1, list, other, s).a == textsAt(1, list, other, s).b {
					continue
				}
				g := of(t, 1, other)
				what := fmt.Sprintf("forged at %v and %v", s, later)
				claimsOf(1, list, g.claims(upTo(n)...), g.batch(t, upTo(n)...)).answers(t, "P16.1", what, textsAt(1, list, other, s))
				kinOf(1, list, other, g.kin(t, n)).answersAsHeld(t, what)
				for _, set := range sets(&c, n) {
					claimsOf(1, list, g.claims(set...), g.batch(t, set...)).answersAsHeld(t, what)
				}
			}
		}
	}
}

// Two leaves: each order of the two, in one mountain and in several, with a path or a batch of one, the other or both.
func TestTwoLeaves(t *testing.T) {
	c := chance(164)
	for _, k := range []int{1, 2} {
		f := forgerOf(&c, k)
		for _, n := range []int{2, 3, 7, 8} {
			list := f.items(n)
			for i := range n {
				for j := i + 1; j < n; j++ {
					other := slices.Clone(list)
					other[i], other[j] = f.item(leaf(k, list[i])), f.item(leaf(k, list[j]))
					g := of(t, k, other)
					atI := answer{"\x00" + list[i], "\x00" + other[i], true}
					atJ := answer{"\x00" + list[j], "\x00" + other[j], true}
					one, two := uint64(i), uint64(j)
					claimsOf(k, list, g.claims(one, two), g.batch(t, one, two)).answers(t, "P16.1", "two leaves", atI)
					claimsOf(k, list, g.claims(one), g.path(t, one)).answers(t, "P16.1", "the first of two", atI)
					claimsOf(k, list, g.claims(two), g.batch(t, two)).answers(t, "P16.1", "the second of two", atJ)
					claimsOf(k, list, g.claims(upTo(j)...), g.batch(t, upTo(j)...)).answers(t, "P16.1", "the first of two", atI)
					claimsOf(k, list, g.claims(upTo(n)[i+1:]...), g.batch(t, upTo(n)[i+1:]...)).answers(t, "P16.1", "the second of two", atJ)
					kinOf(k, list, other, g.kin(t, n)).answers(t, "P16.2", "two leaves", atI)
					kinOf(k, list[:j], other, g.kin(t, j)).answers(t, "P16.2", "the first of two", atI)
				}
			}
		}
	}
}

// Of a block without a number of the Set a proof has the digest alone: another digest there is told by the text above it, and by no other.
func TestBareBlocks(t *testing.T) {
	c := chance(165)
	f := forgerOf(&c, 1)
	for range 300 {
		n := 2 + c.below(12)
		list := c.items(n)
		i := uint64(c.below(n))
		p, _ := path.Prove(of(t, 1, list).Forest, uint64(n), i)
		where := slices.IndexFunc(blocks(p), func(b api.Block) bool { return b.H == 0 && b.K == i^1 })
		if where < 0 {
			continue // its leaf is a mountain
		}
		node := api.Block{H: 1, K: i / 2}
		text, _ := treeOf(1, list).block(node)
		l, r := f.two("\x01", digest(1, text), text)
		mine, beside := l, r
		if i%2 == 1 {
			mine, beside = r, l
		}
		p.Digests[where] = beside
		want := answer{text, "\x01" + l + r, true}
		claim := []api.Claim{{Index: i, Value: f.item(mine)}}
		claimsOf(1, list, claim, encoded(t, p, api.OK)).answers(t, "P16.1", "a digest beside a leaf", want)
		claimsOf(1, list, claim, asBatch(t, p)).answers(t, "P16.1", "a digest beside a leaf", want)
	}
}

// asBatch are a path's numbers and digests as the batch of one number.
func asBatch(t *testing.T, p api.Proof) string {
	t.Helper()
	known := proofTree(p, nil).bare
	p.Kind = 2
	var digests []string
	for _, b := range blocks(p) {
		digests = append(digests, known[b])
	}
	p.Digests = digests
	return encoded(t, p, api.OK)
}

// byChance is a proof of claims by chance, of no list's digests, that is accepted against a list's commitment.
func (c *chance) byChance(t *testing.T, k int, list []string, set []uint64, kind int) asked {
	t.Helper()
	r := treeOf(k, list).root()
	p := api.Proof{Kind: kind, K: k, Size: r.Size, Set: set}
	count := len(blocks(p))
	for {
		p.Digests = c.texts(count, k)
		var claims []api.Claim
		for _, i := range set {
			claims = append(claims, api.Claim{Index: i, Value: c.text(1 + c.below(9))})
			if c.below(4) == 0 {
				claims[len(claims)-1].Value = list[i]
			}
		}
		s := encoded(t, p, api.OK)
		if light.Claims(k, r, claims, s) == api.OK {
			return claimsOf(k, list, claims, s)
		}
	}
}

// Whatever is accepted: each claim is so, or two texts are found.
func TestProofsByChance(t *testing.T) {
	c := chance(166)
	for range 400 {
		n := 1 + c.below(24)
		list := c.items(n)
		set := c.set(n, 1+c.below(5))
		x := c.byChance(t, 1, list, set, 2)
		x.answersAsHeld(t, "by chance")
		x = c.byChance(t, 1, list, set[:1], 1)
		want := x.answersAsHeld(t, "by chance")
		p, _ := codec.Decode(x.proof)
		x.proof = asBatch(t, p)
		x.answers(t, "P16.1", "the path's tree as a batch", want)
	}
}

// A path and a batch of one number have one tree.
func TestPathAndBatch(t *testing.T) {
	c := chance(167)
	f := forgerOf(&c, 1)
	for _, n := range []int{1, 2, 3, 7, 8, 13, 22} {
		f.forgeries(n, func(list, other []string, s spot) {
			g := of(t, 1, other)
			for i := range uint64(n) {
				one, many := claimsOf(1, list, g.claims(i), g.path(t, i)), claimsOf(1, list, g.claims(i), g.batch(t, i))
				want := one.answer()
				many.answers(t, "P16.1", "the path's answer, of a batch", want)
				if want.found != s.changed(i, uint64(n)) {
					t.Fatalf("P16.3: %s finds %v", one.shown(), want.found)
				}
			}
		})
	}
}

// own are calls with a list's own proofs: every path, every kin, some batches.
func (a archive) own(t *testing.T, c *chance) []asked {
	t.Helper()
	k, n := a.Strength(), len(a.list)
	var list []asked
	for m := range n + 1 {
		list = append(list, kinOf(k, a.list[:m], a.list, a.kin(t, m)))
	}
	if n == 0 {
		return list
	}
	for _, set := range sets(c, n) {
		for _, s := range a.proofs(t, set) {
			list = append(list, claimsOf(k, a.list, a.claims(set...), s))
		}
	}
	return list
}

// What is so: nothing, however it was proved.
func TestAllSo(t *testing.T) {
	c := chance(168)
	for _, k := range []int{1, 2, 3, 16, 31, 32} {
		for _, n := range []int{0, 1, 2, 3, 7, 8, 13} {
			for _, x := range of(t, k, c.items(n)).own(t, &c) {
				if !x.accepted() {
					t.Fatalf("%s is not accepted", x.shown())
				}
				x.answers(t, x.number(), "all so", nothing)
			}
		}
	}
	f := forgerOf(&c, 1)
	for _, n := range []int{3, 7, 13} { // the proof's digests are another list's, but the claims are so
		for range 20 {
			list := f.items(n)
			set := c.set(n, 2)
			for {
				p := api.Proof{Kind: 2, K: 1, Size: uint64(n), Set: set}
				p.Digests = c.texts(len(blocks(p)), 1)
				x := claimsOf(1, list, archive{list: list}.claims(set...), encoded(t, p, api.OK))
				x.answers(t, "P16.1", "all so, of other digests", nothing)
				if x.accepted() || len(p.Digests) == 0 {
					break
				}
			}
		}
	}
}

// turnedClaims are lists close to one.
func turnedClaims(list []api.Claim) [][]api.Claim {
	last := len(list) - 1
	all := [][]api.Claim{
		nil, {}, list[1:], list[:last], slices.Concat(list, list), slices.Concat(list, []api.Claim{{}}), slices.Concat([]api.Claim{{}}, list),
		slices.Concat(list, []api.Claim{{Index: list[last].Index + 1, Value: "x"}}),
	}
	for at := range list {
		for _, i := range []uint64{0, list[at].Index + 1, list[at].Index - 1, list[at].Index ^ 1<<40, list[at].Index | 1<<63, math.MaxUint64} {
			if i != list[at].Index {
				turned := slices.Clone(list)
				turned[at].Index = i
				all = append(all, turned)
			}
		}
		if at > 0 {
			turned := slices.Clone(list)
			turned[at], turned[at-1] = turned[at-1], turned[at]
			all = append(all, turned)
		}
	}
	return all
}

// broken are bytes that are no proof's, made of a proof's.
func broken(s string) []string {
	list := []string{"", s + "\x00", s + "x", s + s, "\x00" + s, "\x00" + s[1:], "\x04" + s[1:], s[:1] + "\x00" + s[2:], s[:1] + "\x21" + s[2:]}
	for at := range len(s) {
		list = append(list, s[:at])
	}
	return list
}

// found is a call that finds something: forged at a leaf.
func (f *forger) found(t *testing.T, n int, isKin bool) asked {
	t.Helper()
	list := f.items(n)
	i := uint64(f.below(n))
	other, _ := f.forged(list, at(api.Block{H: 0, K: i}))
	g := of(t, f.k, other)
	x := kinOf(f.k, list[:i+1], other, g.kin(t, int(i)+1))
	if !isKin {
		set := slices.Compact(slices.Sorted(slices.Values(append(f.set(n, 3), i))))
		x = claimsOf(f.k, list, g.claims(set...), g.batch(t, set...))
	}
	if !x.answersAsHeld(t, "forged at a leaf").found {
		t.Fatalf("P16.3: %s finds nothing", x.shown())
	}
	return x
}

// What finds something finds nothing, if the checker refuses it.
func TestRefusedClaims(t *testing.T) {
	c := chance(169)
	for _, k := range []int{1, 2} {
		f := forgerOf(&c, k)
		for _, n := range []int{1, 2, 7, 13} {
			x := f.found(t, n, false)
			for _, claims := range turnedClaims(x.claims) {
				y := x.copied()
				y.claims = claims
				y.answers(t, "P16.1", "other claims", nothing)
			}
			y := x.copied()
			y.claims[0].Value = strings.Repeat("x", longest+1)
			y.answers(t, "P16.1", "a value above MaxItem", nothing)
			refusedBytes(t, x)
			for _, list := range [][]string{nil, {}, x.now[1:], x.now[:n-1], append(slices.Clone(x.now), "x")} {
				y := x.copied()
				y.now = list
				y.answers(t, "P16.1", "another size", nothing)
			}
			for _, m := range []int{0, 1, n} {
				y := x.copied()
				y.proof = of(t, k, x.now).kin(t, m)
				y.answers(t, "P16.1", "a kin", nothing)
				y.claims = nil
				y.answers(t, "P16.1", "a kin, no claims", nothing)
			}
			refusedStrengths(t, x)
		}
	}
}

// refusedBytes asks with no proof's bytes.
func refusedBytes(t *testing.T, x asked) {
	t.Helper()
	for _, s := range broken(x.proof) {
		y := x.copied()
		y.proof = s
		y.answers(t, y.number(), "broken bytes", nothing)
	}
}

// refusedStrengths asks with what is no strength, and with those that are not the proof's.
func refusedStrengths(t *testing.T, x asked) {
	t.Helper()
	for _, k := range []int{0, -1, -2, 33, 34, 256 + x.k, 1<<32 + x.k, x.k - 1<<32, math.MinInt, math.MinInt + x.k, math.MaxInt, math.MinInt32, math.MaxInt32, x.k + 1, 32} {
		y := x.copied()
		y.k = k
		y.answers(t, "R4", "another strength", nothing)
	}
}

func TestNoStrength(t *testing.T) {
	c := chance(170)
	for _, k := range []int{0, -1, 33, 64, math.MinInt, math.MaxInt, math.MinInt32, math.MaxInt32, -32} {
		for _, strength := range []int{1, 32} { // those that stand for k in package hash
			f := of(t, strength, counted(7))
			for _, x := range f.own(t, &c) {
				x.k = k
				x.answers(t, "R4", "no strength", nothing)
				if len(x.claims) > 0 {
					x.claims[0].Value += "x"
				}
				x.old = append([]string{"y"}, x.old...)
				x.answers(t, "R4", "no strength", nothing)
			}
		}
		claimsOf(k, nil, nil, "").answers(t, "R4", "no strength", nothing)
		kinOf(k, nil, nil, "").answers(t, "R4", "no strength", nothing)
		kinOf(k, []string{"x"}, []string{"y"}, "\x03\x01\x01\x01\x00").answers(t, "R4", "no strength", nothing)
	}
}

func TestNothingHandedIn(t *testing.T) {
	for _, k := range []int{1, 2, 32} {
		head := func(row ...byte) string { return string(append([]byte{row[0], byte(k)}, row[1:]...)) }
		for _, list := range [][]string{nil, {}, {""}, {"a"}, {"a", "b", "c"}} {
			for _, s := range []string{"", "\x00", head(1, 0, 0), head(1, 1, 0), head(2, 0, 0), head(2, 1, 0), head(2, 1, 1, 0), head(3, 0, 0), head(3, 1, 0), head(3, 1, 1)} {
				claimsOf(k, list, nil, s).answers(t, "P16.1", "no claims", nothing)
				claimsOf(k, list, []api.Claim{}, s).answers(t, "P16.1", "no claims", nothing)
				claimsOf(k, list, []api.Claim{{}}, s).answersAsHeld(t, "a zero claim")
				claimsOf(k, nil, []api.Claim{{Index: 0, Value: "a"}}, s).answers(t, "P16.1", "no list", nothing)
				kinOf(k, nil, list, s).answers(t, "P16.2", "no old list", nothing)
				kinOf(k, list, nil, s).answers(t, "P16.2", "no list now", nothing)
				kinOf(k, list, list, s).answers(t, "P16.2", "one list", nothing)
			}
		}
	}
}

// At strength 32 (and at many a smaller one) nothing is found, whatever comes.
func TestGreatStrength(t *testing.T) {
	c := chance(171)
	for _, k := range []int{8, 16, 32} {
		f, g := of(t, k, counted(13)), of(t, k, c.items(13))
		for _, x := range slices.Concat(f.own(t, &c), g.own(t, &c)) {
			x.answers(t, "P16.3", "a list's own", nothing)
			for range 20 {
				c.turn(x).answers(t, "P16.3", "a strength that is great", nothing)
			}
			for _, list := range [][]string{f.list, g.list, f.list[1:], g.list[:12], nil} {
				y := x.copied()
				y.now = list
				y.answers(t, "P16.3", "another list", nothing)
				y = x.copied()
				y.old = list[:min(len(list), len(x.old))]
				y.answers(t, "P16.3", "another old list", nothing)
			}
		}
	}
}

// turn changes one thing of a call or two, whichever.
func (c *chance) turn(x asked) asked {
	x = x.copied()
	change := func(list []string) {
		if len(list) > 0 {
			list[c.below(len(list))] = c.text(c.below(5))
		}
	}
	for range 1 + c.below(2) {
		switch c.below(8) {
		case 0:
			x.k = c.below(36) - 1
		case 1:
			change(x.now)
		case 2:
			change(x.old)
		case 3:
			x.now = x.now[:c.below(len(x.now)+1)]
		case 4, 5:
			row := []byte(x.proof)
			if len(row) > 0 {
				row[c.below(len(row))] = byte(c.next())
			}
			x.proof = string(row)
		case 6:
			if len(x.claims) > 0 {
				x.claims[c.below(len(x.claims))].Value = c.text(c.below(5))
			}
		case 7:
			if len(x.claims) > 0 {
				x.claims[c.below(len(x.claims))].Index = uint64(c.below(20))
			}
		}
	}
	return x
}

// Calls that are close to those that find something or nothing. At strength 1 some of them are accepted.
func TestTurned(t *testing.T) {
	c := chance(172)
	f := forgerOf(&c, 1)
	many := 0
	for _, n := range []int{1, 2, 3, 7, 8, 13} {
		calls := of(t, 1, c.items(n)).own(t, &c)
		for range 10 {
			calls = append(calls, f.found(t, n, true), f.found(t, n, false))
		}
		for _, x := range calls {
			for range 60 {
				y := c.turn(x)
				if y.answersAsHeld(t, "turned").found {
					many++
				}
			}
		}
	}
	if many < 20 {
		t.Errorf("only %d turned calls found something", many)
	}
}

// An old list that is forged, the list now being another, of which it would be a beginning: (1) its root, its bags; (3) its nodes and leaves.
func TestForgedOld(t *testing.T) {
	c := chance(173)
	for _, k := range []int{1, 2} {
		f := forgerOf(&c, k)
		for _, m := range forgedSizes(k) {
			f.forgeries(m, func(list, old []string, s spot) {
				for _, more := range []int{0, 1, 2, 5, m} {
					now := append(slices.Clone(list), c.items(more)...)
					x := kinOf(k, old, now, of(t, k, now).kin(t, m))
					x.answers(t, "P16.2", fmt.Sprintf("old forged at %v", s), textsAt(k, old, list, s))
					x.answersAsHeld(t, fmt.Sprintf("old forged at %v", s))
					kinOf(k, list, now, x.proof).answers(t, "P16.2", "a beginning", nothing)
				}
			})
		}
	}
}

// isAbove tells whether a kin has a text at a spot of Size items: whether it has no digest of that block, nor of one that it lies in.
func isAbove(s spot, p api.Proof) bool {
	if s.name != "block" {
		return true
	}
	return !slices.ContainsFunc(blocks(p), func(b api.Block) bool { return first(b) <= first(s.block) && end(s.block) <= end(b) })
}

// A list now that is forged, the proof and the old list being another's: (2), if it is so above the proof's blocks; else (3), or nothing, if the old list stays its beginning.
func TestForgedNow(t *testing.T) {
	c := chance(174)
	for _, k := range []int{1, 2} {
		f := forgerOf(&c, k)
		for _, n := range forgedSizes(k) {
			f.forgeries(n, func(list, now []string, s spot) {
				g := of(t, k, list)
				for m := range n + 1 {
					x := kinOf(k, list[:m], now, g.kin(t, m))
					p, _ := codec.Decode(x.proof)
					want := nothing
					if s.isIn(upTo(m), n) {
						want = textsAt(k, list, now, s) // old's and now's
						if isAbove(s, p) {
							want = textsAt(k, now, list, s) // now's and the proof's
						}
					}
					x.answers(t, "P16.2", fmt.Sprintf("now forged at %v", s), want)
					x.answersAsHeld(t, fmt.Sprintf("now forged at %v", s))
				}
			})
		}
	}
}

// Both lists forged, each at every spot: of (1), (2) and (3) the one that stands first.
func TestForgedOldAndNow(t *testing.T) {
	c := chance(175)
	f := forgerOf(&c, 1)
	for _, size := range [][2]int{{1, 1}, {1, 2}, {2, 3}, {3, 3}, {3, 4}, {3, 7}, {5, 8}, {7, 7}, {6, 13}} {
		m, n := size[0], size[1]
		for _, s := range spots(uint64(m)) {
			for _, later := range spots(uint64(n)) {
				list := f.items(n)
				old, ok := f.forged(list[:m], s)
				now, also := f.forged(list, later)
				if !ok || !also {
					continue // not every root has another text
				}
				x := kinOf(1, old, now, of(t, 1, list).kin(t, m))
				p, _ := codec.Decode(x.proof)
				what := fmt.Sprintf("old forged at %v and now at %v", s, later)
				switch {
				case s.name != "block":
					x.answers(t, "P16.2", what+": the first", textsAt(1, old, list[:m], s))
				case isAbove(later, p):
					x.answers(t, "P16.2", what+": the second", textsAt(1, now, list, later))
				}
				x.answersAsHeld(t, what)
			}
		}
	}
}

// kinByChance is a proof that no list has, accepted against the commitments of two lists, of which the first one is the shorter; false, if none was found: not all two lists have one.
func (c *chance) kinByChance(t *testing.T, k int, old, now []string) (asked, bool) {
	t.Helper()
	p := api.Proof{Kind: 3, K: k, Old: uint64(len(old)), Size: uint64(len(now))}
	ahead := len(mountains(p.Old))
	behind := len(blocks(p)) - ahead
	before, after := treeOf(k, old).root(), treeOf(k, now).root()
	for range 1000 {
		p.Digests = c.texts(ahead, k)
		if proofTree(api.Proof{Kind: 3, K: k, Old: p.Old, Size: p.Old, Digests: p.Digests}, nil).root() != before {
			continue
		}
		for range 400 {
			q := p
			q.Digests = append(slices.Clone(p.Digests), c.texts(behind, k)...)
			if s := encoded(t, q, api.OK); light.Kin(k, before, after, s) == api.OK {
				return kinOf(k, old, now, s), true
			}
		}
	}
	return asked{}, false
}

// Whatever is accepted as a kin of two lists that have nothing to do with each other: two texts are found.
func TestKinsByChance(t *testing.T) {
	c := chance(176)
	many := 0
	for range 300 {
		m := 1 + c.below(8)
		old, now := c.items(m), c.items(m+1+c.below(8))
		if x, ok := c.kinByChance(t, 1, old, now); ok {
			x.answersAsHeld(t, "by chance")
			many++
		}
		if x, ok := c.kinByChance(t, 1, now[:m], now); ok {
			x.answers(t, "P16.2", "by chance, a beginning", nothing)
		}
	}
	if many < 100 {
		t.Errorf("only %d kins were found by chance", many)
	}
}

// A proof that has the old list's own peaks, and by chance leads to the list now: nothing of (1), so (2) is told, or (3).
func TestOldPeaksKept(t *testing.T) {
	c := chance(177)
	for range 300 {
		m := 1 + c.below(8)
		old, now := c.items(m), c.items(m+1+c.below(8))
		p := api.Proof{Kind: 3, K: 1, Old: uint64(m), Size: uint64(len(now))}
		var peaks []string
		for _, b := range mountains(p.Old) {
			d, _ := treeOf(1, old).node(b)
			peaks = append(peaks, d)
		}
		count := len(blocks(p)) - len(peaks)
		for range 2000 {
			p.Digests = append(slices.Clone(peaks), c.texts(count, 1)...)
			x := kinOf(1, old, now, encoded(t, p, api.OK))
			if x.accepted() {
				x.answersAsHeld(t, "the old list's own peaks")
				break
			}
		}
	}
}

// A beginning, though the proof's digests are not the lists': nothing. Of 0 and n always.
func TestBeginnings(t *testing.T) {
	c := chance(178)
	f := forgerOf(&c, 1)
	for _, n := range []int{1, 2, 3, 7, 8, 13} {
		f.forgeries(n, func(list, other []string, s spot) {
			g := of(t, 1, other)
			for m := range n + 1 {
				x := kinOf(1, list[:m], list, g.kin(t, m))
				if m == 0 || m == n {
					if !x.accepted() {
						t.Fatalf("%s is not accepted", x.shown())
					}
				}
				x.answers(t, "P16.2", fmt.Sprintf("a beginning, the proof forged at %v", s), nothing)
			}
			kinOf(1, nil, list, g.kin(t, 0)).answers(t, "P16.2", "0 and n", nothing)
			kinOf(1, []string{}, other, g.kin(t, 0)).answers(t, "P16.2", "0 and n", nothing)
			kinOf(1, other, other, g.kin(t, n)).answers(t, "P16.2", "n and n", nothing)
		})
	}
}

func TestRefusedKins(t *testing.T) {
	c := chance(179)
	for _, k := range []int{1, 2} {
		f := forgerOf(&c, k)
		for _, n := range []int{1, 2, 7, 13} {
			x := f.found(t, n, true)
			refusedBytes(t, x)
			refusedStrengths(t, x)
			other := of(t, k, x.now)
			for _, old := range [][]string{nil, {}, x.old[1:], append(slices.Clone(x.old), "x")} {
				y := x.copied()
				y.old = old
				y.answers(t, "P16.2", "another old size", nothing)
			}
			for _, now := range [][]string{nil, {}, x.now[1:], append(slices.Clone(x.now), "x")} {
				y := x.copied()
				y.now = now
				y.answers(t, "P16.2", "another size now", nothing)
			}
			for i := range uint64(n) {
				for _, s := range other.proofs(t, []uint64{i}) {
					y := x.copied()
					y.proof = s
					y.answers(t, "P16.2", "no kin", nothing)
				}
			}
			y := x.copied()
			y.old, y.now = x.now, x.old
			if len(x.now) > len(x.old) {
				y.answers(t, "P16.2", "the lists changed for one another", nothing)
			}
		}
	}
}

// bareOf is a proof by hand, with the digests that a list has: a list's items may be longer here than a forest's.
func bareOf(t *testing.T, list []string, p api.Proof) string {
	t.Helper()
	all := treeOf(p.K, list)
	for _, b := range blocks(p) {
		d, _ := all.node(b)
		p.Digests = append(p.Digests, d)
	}
	return encoded(t, p, api.OK)
}

// Items of any length: nothing, MaxItem, more than that.
func TestItemsOfAnyLength(t *testing.T) {
	c := chance(180)
	f := forgerOf(&c, 1)
	for _, length := range []int{0, 1, 54, 55, 56, 63, 64, 65, longest - 1, longest, longest + 1, 2*longest + 3} {
		long := strings.Repeat("x", length)
		brief := f.item(leaf(1, long))
		list, other := []string{"a", long, "", "d", "e"}, []string{"a", brief, "", "d", "e"}
		pair, back := answer{"\x00" + long, "\x00" + brief, true}, answer{"\x00" + brief, "\x00" + long, true}
		for _, p := range []api.Proof{{Kind: 1, K: 1, Size: 5, Set: []uint64{1}}, {Kind: 2, K: 1, Size: 5, Set: []uint64{1}}} {
			s := bareOf(t, list, p)
			claim := func(value string) []api.Claim { return []api.Claim{{Index: 1, Value: value}} }
			claimsOf(1, list, claim(brief), s).answers(t, "P16.1", "a long item of the list", pair)
			claimsOf(1, list, claim(long), s).answers(t, "P16.1", "a long item, so", nothing)
			if length > longest {
				back = nothing // it is not accepted
			}
			claimsOf(1, other, claim(long), s).answers(t, "P16.1", "a long item of the claim", back)
		}
		s := bareOf(t, list, api.Proof{Kind: 2, K: 1, Size: 5, Set: []uint64{0, 2}})
		claims := []api.Claim{{Index: 0, Value: "a"}, {Index: 2, Value: f.item(leaf(1, ""))}}
		claimsOf(1, list, claims, s).answers(t, "P16.1", "an empty item, beside a long one", answer{"\x00", "\x00" + claims[1].Value, true})
		s = bareOf(t, list, api.Proof{Kind: 3, K: 1, Old: 3, Size: 5})
		kinOf(1, list[:3], other, s).answers(t, "P16.2", "a long item of old", pair)
		kinOf(1, other[:3], list, s).answers(t, "P16.2", "a long item of now", answer{"\x00" + brief, "\x00" + long, true})
		kinOf(1, list[:3], list, s).answers(t, "P16.2", "a long item of both", nothing)
	}
}

// Bytes by chance and numbers as great as they may be: every call ends, and none panics.
func TestWhateverComes(t *testing.T) {
	c := chance(181)
	for range 4000 {
		k := c.below(4)
		s := c.text(c.below(60))
		if len(s) > 3 && c.below(4) > 0 { // beyond the first bytes too
			s = string([]byte{byte(1 + c.below(3)), byte(k), byte(c.below(9))}) + s[3:]
		}
		var claims []api.Claim
		for range c.below(4) {
			claims = append(claims, api.Claim{Index: c.next() >> c.below(64), Value: c.text(c.below(20))})
		}
		claimsOf(k, c.items(c.below(9)), claims, s).answersAsHeld(t, "bytes by chance")
		kinOf(k, c.items(c.below(9)), c.items(c.below(9)), s).answersAsHeld(t, "bytes by chance")
	}
	list := counted(5)
	for _, p := range []api.Proof{
		{Kind: 1, K: 1, Size: leaves, Set: []uint64{0}}, {Kind: 1, K: 1, Size: leaves, Set: []uint64{leaves - 1}}, {Kind: 2, K: 1, Size: leaves, Set: []uint64{4, leaves - 1}},
		{Kind: 3, K: 1, Size: leaves}, {Kind: 3, K: 1, Old: 5, Size: leaves}, {Kind: 3, K: 1, Old: leaves, Size: leaves}, {Kind: 3, K: 1, Old: leaves - 1, Size: leaves},
	} {
		p.Digests = c.texts(len(blocks(p)), 1)
		s := encoded(t, p, api.OK)
		for _, claims := range [][]api.Claim{nil, {{Index: 0, Value: "x"}}, {{Index: leaves - 1}}, {{Index: 4}, {Index: leaves - 1}}, {{Index: math.MaxUint64}}} {
			claimsOf(1, list, claims, s).answers(t, "P16.4", "a great size", nothing)
		}
		kinOf(1, list, list, s).answers(t, "P16.4", "a great size", nothing)
		kinOf(1, nil, list, s).answers(t, "P16.4", "a great size", nothing)
	}
}

// Lists of many items: what is found stands far below, and comes in time.
func TestManyItems(t *testing.T) {
	c := chance(182)
	f := forgerOf(&c, 2)
	n := 20001
	list := counted(n)
	other := slices.Clone(list)
	for _, i := range []int{15000, 20000} {
		other[i] = f.item(leaf(2, list[i]))
	}
	g := of(t, 2, other)
	at := func(i int) answer { return answer{"\x00" + list[i], "\x00" + other[i], true} }
	began := time.Now()
	claimsOf(2, list, g.claims(upTo(n)...), g.batch(t, upTo(n)...)).answers(t, "P16.1", "all of many", at(15000))
	claimsOf(2, list, g.claims(3, 20000), g.batch(t, 3, 20000)).answers(t, "P16.1", "two of many", at(20000))
	claimsOf(2, list, g.claims(15000), g.path(t, 15000)).answers(t, "P16.1", "one of many", at(15000))
	claimsOf(2, list, g.claims(upTo(15000)...), g.batch(t, upTo(15000)...)).answers(t, "P16.1", "many that are so", nothing)
	kinOf(2, list, other, g.kin(t, n)).answers(t, "P16.2", "all of many", at(15000))
	kinOf(2, list[:19000], other, g.kin(t, 19000)).answers(t, "P16.2", "many of many", at(15000))
	kinOf(2, list[:15000], other, g.kin(t, 15000)).answers(t, "P16.2", "a beginning of many", nothing)
	if d := time.Since(began); d > 30*time.Second {
		t.Errorf("P16.4: %d items took %v", n, d)
	}
}

// padded is a list with room behind it, filled.
func padded[T any](list []T, behind T) []T {
	whole := slices.Clone(list)
	for range 5 {
		whole = append(whole, behind)
	}
	return whole
}

// stays tells whether a list and the room behind it are as they were.
func stays[T comparable](whole, list []T, behind T) bool {
	return slices.Equal(whole, padded(list, behind))
}

// Lists and claims that are handed in, and the room behind them, stay; what is done with them later changes no answer.
func TestHandedListsStay(t *testing.T) {
	c := chance(183)
	f := forgerOf(&c, 1)
	for _, n := range []int{1, 3, 8, 13} {
		calls := of(t, 1, c.items(n)).own(t, &c)
		for range 20 {
			calls = append(calls, f.found(t, n, true), f.found(t, n, false), c.turn(f.found(t, n, false)))
		}
		for _, x := range calls {
			behind := api.Claim{Index: 77, Value: "behind"}
			old, now, claims := padded(x.old, "behind"), padded(x.now, "behind"), padded(x.claims, behind)
			handed := x
			handed.old, handed.now, handed.claims = old[:len(x.old)], now[:len(x.now)], claims[:len(x.claims)]
			told := handed.answer()
			if !stays(old, x.old, "behind") || !stays(now, x.now, "behind") || !stays(claims, x.claims, behind) {
				t.Fatalf("P16.4: %s changed what was handed in to %q, %q, %v", x.shown(), old, now, claims)
			}
			want := answer{strings.Clone(told.a), strings.Clone(told.b), told.found}
			for _, list := range [][]string{old, now} {
				for i := range list {
					list[i] = "bad"
				}
			}
			clear(claims)
			if told != want {
				t.Fatalf("R3: what %s told has changed", x.shown())
			}
			x.answers(t, "R11", "asked anew", want)
		}
	}
}

func TestAskedTwice(t *testing.T) {
	c := chance(184)
	f := forgerOf(&c, 1)
	calls := append(of(t, 1, c.items(13)).own(t, &c), of(t, 32, c.items(13)).own(t, &c)...)
	for range 30 {
		calls = append(calls, f.found(t, 13, true), f.found(t, 7, false))
	}
	for at := range len(calls) {
		calls = append(calls, c.turn(calls[at]))
	}
	var told []answer
	for _, x := range calls {
		a := x.answer()
		x.answers(t, "R11", "asked twice", a)
		told = append(told, a)
	}
	for at, x := range slices.Backward(calls) { // and among the others, in another order
		x.answers(t, "R11", "asked later", told[at])
	}
}

// Where nothing is told the texts are empty.
func TestNothingIsEmpty(t *testing.T) {
	c := chance(185)
	f := forgerOf(&c, 1)
	for range 200 {
		for _, x := range []asked{c.turn(f.found(t, 5, true)), c.turn(f.found(t, 5, false))} {
			if a := x.answer(); !a.found && (a.a != "" || a.b != "") {
				t.Fatalf("R1: %s tells %s, %s and nothing", x.shown(), short(a.a), short(a.b))
			}
		}
	}
}
