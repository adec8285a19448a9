package path_test

import (
	"crypto/sha256"
	"encoding/binary"
	"encoding/hex"
	"fmt"
	"math"
	"math/bits"
	"slices"
	"strconv"
	"strings"
	"testing"

	"massif/api"
	"massif/forest"
	"massif/hash"
	"massif/num"
	"massif/path"
	"massif/plain"
)

// The document's numbers of MaxItem, MaxItems and MaxLeaves.
const (
	longest = 1 << 20
	most    = 1 << 16
	leaves  = 1 << 40
)

// chance gives numbers by a rule, the same ones in every run.
type chance uint64

func (c *chance) next() uint64 {
	*c = *c*6364136223846793005 + 1442695040888963407
	return uint64(*c)>>32 ^ uint64(*c)<<32
}

// below is a number from 0 to n - 1.
func (c *chance) below(n int) int {
	return int(c.next() % (1 << 32) * uint64(n) >> 32)
}

// text has n bytes of any kind, those that are no UTF-8 among them.
func (c *chance) text(n int) string {
	row := make([]byte, n)
	for i := range row {
		row[i] = byte(c.next())
	}
	return string(row)
}

// texts are count digests of strength k that no list has.
func (c *chance) texts(count, k int) []string {
	list := make([]string, count)
	for i := range list {
		list[i] = c.text(k)
	}
	return list
}

// items are n texts of up to 150 bytes, some of them nothing, some twice.
func (c *chance) items(n int) []string {
	list := make([]string, n)
	for i := range list {
		switch c.below(8) {
		case 0: // "" is an item
		case 1:
			list[i] = list[c.below(i+1)]
		default:
			list[i] = c.text(c.below(151))
		}
	}
	return list
}

// size is from 1 to MaxLeaves, of any length in bits, some of few ones, some of many.
func (c *chance) size() uint64 {
	n := c.next() >> (23 + c.below(41))
	switch c.below(4) {
	case 0:
		n &= c.next()
	case 1:
		n |= c.next() & (1<<bits.Len64(n) - 1)
	}
	return min(max(n, 1), leaves)
}

// counted are n items, each unlike all others.
func counted(n int) []string {
	list := make([]string, n)
	for i := range list {
		list[i] = "item " + strconv.Itoa(i)
	}
	return list
}

// digest is the first k bytes of the library's sum of a text.
func digest(k int, text string) string {
	sum := sha256.Sum256([]byte(text))
	return string(sum[:k])
}

func leaf(k int, item string) string { return digest(k, "\x00"+item) }

func node(k int, a, b string) string { return digest(k, "\x01"+a+b) }

// mountains of n, as DOC.md's section 'Words' says it.
func mountains(n uint64) []api.Block {
	var list []api.Block
	first := uint64(0)
	for h := 63; h >= 0; h-- {
		if n>>h&1 == 1 {
			list = append(list, api.Block{H: h, K: first >> h})
			first += 1 << h
		}
	}
	return list
}

// has tells whether the item i is one of a block's.
func has(b api.Block, i uint64) bool { return b.K<<b.H <= i && i-b.K<<b.H < 1<<b.H }

// siblings of the blocks that have i, from the leaf up to below b: from above, as R5 says it.
func siblings(b api.Block, i uint64) []api.Block {
	if b.H == 0 {
		return nil
	}
	left, right := api.Block{H: b.H - 1, K: 2 * b.K}, api.Block{H: b.H - 1, K: 2*b.K + 1}
	if has(left, i) {
		return append(siblings(left, i), right)
	}
	return append(siblings(right, i), left)
}

// asked are the blocks of a path's digests, and how many of them are siblings and mountains at the left.
func asked(n, i uint64) (list []api.Block, beside, ahead int) {
	var others []api.Block
	for _, m := range mountains(n) {
		if has(m, i) {
			list, ahead = siblings(m, i), len(others)
		} else {
			others = append(others, m)
		}
	}
	return append(list, others...), len(list), ahead
}

// count tells how many digests a path has.
func count(n, i uint64) int {
	list, _, _ := asked(n, i)
	return len(list)
}

// texts are all that is hashed on the way from an item to the root that a proof leads to, the root's last.
func texts(p api.Proof, item string) []string {
	_, beside, ahead := asked(p.Size, p.Set[0])
	list := []string{"\x00" + item}
	at := p.Set[0]
	for _, d := range p.Digests[:beside] {
		own := digest(p.K, list[len(list)-1])
		if at%2 == 1 {
			list = append(list, "\x01"+d+own)
		} else {
			list = append(list, "\x01"+own+d)
		}
		at /= 2
	}
	peaks := slices.Insert(slices.Clone(p.Digests[beside:]), ahead, digest(p.K, list[len(list)-1]))
	bag := peaks[len(peaks)-1]
	for i := len(peaks) - 2; i >= 0; i-- {
		list = append(list, "\x02"+peaks[i]+bag)
		bag = digest(p.K, list[len(list)-1])
	}
	return append(list, string(binary.BigEndian.AppendUint64([]byte{3}, p.Size))+bag)
}

// led is the commitment to which a proof leads.
func led(p api.Proof, item string) api.Root {
	list := texts(p, item)
	return api.Root{Size: p.Size, Digest: digest(p.K, list[len(list)-1])}
}

// model has the digests of all blocks of a list.
type model struct {
	k       int
	list    []string
	digests map[api.Block]string
}

func modelOf(k int, list []string) *model {
	m := &model{k: k, list: list, digests: map[api.Block]string{}}
	for _, b := range mountains(uint64(len(list))) {
		m.tree(b)
	}
	return m
}

func (m *model) tree(b api.Block) string {
	d := ""
	if b.H == 0 {
		d = leaf(m.k, m.list[b.K])
	} else {
		left := m.tree(api.Block{H: b.H - 1, K: 2 * b.K})
		d = node(m.k, left, m.tree(api.Block{H: b.H - 1, K: 2*b.K + 1}))
	}
	m.digests[b] = d
	return d
}

// path is the proof of i within the first n of the list.
func (m *model) path(n, i uint64) api.Proof {
	p := api.Proof{Kind: 1, K: m.k, Size: n, Set: []uint64{i}}
	list, _, _ := asked(n, i)
	for _, b := range list {
		p.Digests = append(p.Digests, m.digests[b])
	}
	return p
}

// numbers are at both sides of each power of two.
func numbers() []uint64 {
	list := []uint64{0, math.MaxUint64}
	for h := range 64 {
		list = append(list, 1<<h-1, 1<<h, 1<<h+1)
	}
	return list
}

// shown is a proof as text, its digests in hexadecimal digits.
func shown(p api.Proof) string {
	return fmt.Sprintf("{Kind %d, K %d, Old %d, Size %d, Set %d, Digests %x}", p.Kind, p.K, p.Old, p.Size, p.Set, p.Digests)
}

// same tells whether two proofs are alike in all fields.
func same(p, q api.Proof) bool {
	return p.Kind == q.Kind && p.K == q.K && p.Old == q.Old && p.Size == q.Size && slices.Equal(p.Set, q.Set) && slices.Equal(p.Digests, q.Digests)
}

// copied is a proof with lists of its own.
func copied(p api.Proof) api.Proof {
	p.Set, p.Digests = slices.Clone(p.Set), slices.Clone(p.Digests)
	return p
}

// of is a forest of a list.
func of(t *testing.T, k int, list []string) *forest.Forest {
	t.Helper()
	f, e := forest.New(k)
	if f == nil || e != api.OK {
		t.Fatalf("New(%d) = %v, %d", k, f, e)
	}
	for _, item := range list {
		if _, e := f.Append(item); e != api.OK {
			t.Fatalf("Append of %d bytes = %d", len(item), e)
		}
	}
	return f
}

// proved is what Prove answers, if it has no error.
func proved(t *testing.T, f *forest.Forest, n, i uint64) api.Proof {
	t.Helper()
	p, e := path.Prove(f, n, i)
	if e != api.OK {
		t.Fatalf("11.1: Prove(%d, %d) of %d items = %d", n, i, f.Size(), e)
	}
	return p
}

func proves(t *testing.T, promise string, f *forest.Forest, n, i uint64, want api.Proof) {
	t.Helper()
	if p := proved(t, f, n, i); !same(p, want) {
		t.Fatalf("%s: Prove(%d, %d) of %d items = %s, want %s", promise, n, i, f.Size(), shown(p), shown(want))
	}
}

func provesNot(t *testing.T, f *forest.Forest, n, i uint64, want api.Errno) {
	t.Helper()
	if p, e := path.Prove(f, n, i); !same(p, api.Proof{}) || e != want {
		t.Fatalf("11.1: Prove(%d, %d) of %d items = %s, %d, want %d", n, i, f.Size(), shown(p), e, want)
	}
}

func leads(t *testing.T, promise string, p api.Proof, item string, want api.Root) {
	t.Helper()
	if r, e := path.Root(p, item); r != want || e != api.OK {
		t.Fatalf("%s: Root of %s and %d bytes = %d, %x, %d, want %d, %x", promise, shown(p), len(item), r.Size, r.Digest, e, want.Size, want.Digest)
	}
}

func leadsNowhere(t *testing.T, p api.Proof, item string, want api.Errno) {
	t.Helper()
	if r, e := path.Root(p, item); r != (api.Root{}) || e != want {
		t.Fatalf("11.1: Root of %s and %d bytes = %d, %x, %d, want %d", shown(p), len(item), r.Size, r.Digest, e, want)
	}
}

// spoil writes over a list and all the room behind it, and grows it.
func spoil[T any](list []T, bad T) {
	whole := list[:cap(list)]
	for i := range whole {
		whole[i] = bad
	}
	_ = append(list, bad)
}

func TestExamplesOfProve(t *testing.T) {
	a, b, c := leaf(32, "a"), leaf(32, "b"), leaf(32, "c")
	ab := node(32, a, b)
	f := of(t, 32, []string{"a", "b", "c"})
	for _, x := range []struct {
		n, i uint64
		want []string
	}{
		{3, 0, []string{b, c}}, {3, 1, []string{a, c}}, {3, 2, []string{ab}}, {2, 0, []string{b}}, {2, 1, []string{a}}, {1, 0, nil},
	} {
		proves(t, "11.1", f, x.n, x.i, api.Proof{Kind: api.KindPath, K: 32, Size: x.n, Set: []uint64{x.i}, Digests: x.want})
		root, _ := f.Root(x.n)
		leads(t, "11.2", proved(t, f, x.n, x.i), "abc"[x.i:x.i+1], root)
	}
	provesNot(t, f, 4, 0, 30)
	provesNot(t, f, 3, 3, 31)
	provesNot(t, f, 0, 0, 31)
	provesNot(t, f, 4, 9, 30)
}

func TestExampleOfSeven(t *testing.T) {
	list := []string{"a", "b", "c", "d", "e", "f", "g"}
	all, _ := plain.Tree(32, list, api.Block{H: 2, K: 0})
	want := []string{leaf(32, "e"), all, leaf(32, "g")}
	proves(t, "11.1", of(t, 32, list), 7, 5, api.Proof{Kind: 1, K: 32, Size: 7, Set: []uint64{5}, Digests: want})
}

func TestExamplesOfRoot(t *testing.T) {
	one := api.Proof{Kind: api.KindPath, K: 32, Size: 1, Set: []uint64{0}}
	want := api.Root{Size: 1, Digest: hash.Root(32, 1, []string{leaf(32, "a")})}
	leads(t, "11.1", one, "a", want)
	one.Digests = []string{}
	leads(t, "11.1", one, "a", want)
	for name, change := range map[string]func(*api.Proof){
		"a digest":            func(p *api.Proof) { p.Digests = []string{leaf(32, "b")} },
		"Set 0, 0":            func(p *api.Proof) { p.Set = []uint64{0, 0} },
		"no Set":              func(p *api.Proof) { p.Set = nil },
		"a Set without room":  func(p *api.Proof) { p.Set = []uint64{} },
		"Old 1":               func(p *api.Proof) { p.Old = 1 },
		"K 0":                 func(p *api.Proof) { p.K = 0 },
		"K 33":                func(p *api.Proof) { p.K = 33 },
		"Size 2^40 + 1":       func(p *api.Proof) { p.Size = 1<<40 + 1 },
		"Size 0":              func(p *api.Proof) { p.Size = 0 },
		"Size 2, a long one":  func(p *api.Proof) { p.Size, p.Digests = 2, []string{leaf(32, "b") + "x"} },
		"Size 2, a short one": func(p *api.Proof) { p.Size, p.Digests = 2, []string{leaf(31, "b")} },
		"Kind 0":              func(p *api.Proof) { p.Kind = 0 },
	} {
		p := copied(one)
		change(&p)
		if r, e := path.Root(p, "a"); r != (api.Root{}) || e != 150 {
			t.Errorf("11.1: Root with %s = %d, %x, %d, want 150", name, r.Size, r.Digest, e)
		}
	}
	leadsNowhere(t, one, strings.Repeat("a", longest+1), 100)
}

// By sha256sum: 01 and the sums of 00 61 and 00 62; 02, that and the sum of 00 63; 03, the size 3 and that.
func TestKnownRoot(t *testing.T) {
	want, err := hex.DecodeString("6356b7c28e03afe7a9f1ab896b8df936d1920a4e168887259c419b9c452c8e92")
	if err != nil {
		t.Fatal(err)
	}
	f := of(t, 32, []string{"a", "b", "c"})
	for i := range uint64(3) {
		leads(t, "11.2", proved(t, f, 3, i), "abc"[i:i+1], api.Root{Size: 3, Digest: string(want)})
	}
}

// Every n and i: all fields, how many digests, and the way back.
func TestEveryPath(t *testing.T) {
	c := chance(110)
	for _, x := range []struct{ k, size int }{{32, 260}, {1, 130}, {2, 70}, {7, 70}, {20, 70}, {31, 130}} {
		list := c.items(x.size)
		f, m := of(t, x.k, list), modelOf(x.k, list)
		for n := uint64(1); n <= uint64(x.size); n++ {
			root, _ := f.Root(n)
			for i := range n {
				p := proved(t, f, n, i)
				if want := m.path(n, i); !same(p, want) {
					t.Fatalf("11.1: Prove(%d, %d) = %s, want %s", n, i, shown(p), shown(want))
				}
				leads(t, "11.2", p, list[i], root)
			}
			provesNot(t, f, n, n, api.ErrIndex)
			provesNot(t, f, n, n+1, api.ErrIndex)
		}
	}
}

func TestEveryStrength(t *testing.T) {
	c := chance(111)
	list := c.items(45)
	for k := 1; k <= 32; k++ {
		f, m := of(t, k, list), modelOf(k, list)
		for _, n := range []uint64{1, 2, 3, 7, 8, 31, 32, 33, 44, 45} {
			root, e := plain.Root(k, list, n)
			if e != api.OK {
				t.Fatal(e)
			}
			for i := range n {
				proves(t, "11.1", f, n, i, m.path(n, i))
				leads(t, "11.2", proved(t, f, n, i), list[i], root)
			}
		}
	}
}

// The digests are those that package plain has of the blocks.
func TestDigestsByPlain(t *testing.T) {
	list := counted(40)
	f := of(t, 6, list)
	for n := uint64(1); n <= 40; n++ {
		for i := range n {
			p := proved(t, f, n, i)
			blocks, _, _ := asked(n, i)
			if len(p.Digests) != len(blocks) {
				t.Fatalf("11.3: Prove(%d, %d) has %d digests, want %d", n, i, len(p.Digests), len(blocks))
			}
			for at, b := range blocks {
				if want, ok := plain.Tree(6, list[:n], b); !ok || p.Digests[at] != want {
					t.Fatalf("11.1: Prove(%d, %d) has %x at %d, want %x", n, i, p.Digests[at], at, want)
				}
			}
		}
	}
}

// Which error comes first, at the ends of both numbers.
func TestErrorsOfProve(t *testing.T) {
	for _, size := range []uint64{0, 1, 2, 3, 7, 8, 64, 100} {
		list := counted(int(size))
		f, m := of(t, 3, list), modelOf(3, list)
		for _, n := range append(numbers(), size, size+1, size+2) {
			for _, i := range append(numbers(), n, n+1, n-1, size) {
				switch {
				case n > size:
					provesNot(t, f, n, i, api.ErrSize)
				case i >= n:
					provesNot(t, f, n, i, api.ErrIndex)
				default:
					proves(t, "11.1", f, n, i, m.path(n, i))
				}
			}
		}
	}
}

func TestFullForest(t *testing.T) {
	list := counted(most)
	f, m := of(t, 32, list), modelOf(32, list)
	for _, n := range []uint64{1, 2, 4095, 32767, 32768, 32769, 40000, 65535, 65536} {
		root, _ := f.Root(n)
		for _, i := range []uint64{0, 1, n / 3, n / 2, n - n/3, n - 2, n - 1} {
			if i >= n {
				continue
			}
			p := proved(t, f, n, i)
			if !same(p, m.path(n, i)) {
				t.Fatalf("11.1: Prove(%d, %d) of MaxItems items = %s", n, i, shown(p))
			}
			leads(t, "11.2", p, list[i], root)
		}
	}
	if p := proved(t, f, most, 12345); len(p.Digests) != 16 {
		t.Errorf("11.3: a path within 2^16 items has %d digests, want 16", len(p.Digests))
	}
	provesNot(t, f, most+1, 0, api.ErrSize)
	provesNot(t, f, most, most, api.ErrIndex)
}

// As many as the mountain is high, and one for each other mountain.
func TestHowManyDigests(t *testing.T) {
	f := of(t, 1, make([]string, 300))
	for n := uint64(1); n <= 300; n++ {
		others := num.Ones(n) - 1
		first := uint64(0)
		for _, m := range mountains(n) {
			for i := first; i < first+1<<m.H; i++ {
				if p := proved(t, f, n, i); len(p.Digests) != m.H+others {
					t.Fatalf("11.3: Prove(%d, %d) has %d digests, want %d + %d", n, i, len(p.Digests), m.H, others)
				}
			}
			first += 1 << m.H
		}
	}
}

// Proofs by hand, of sizes that no forest has: just one number of digests is right.
func TestAnySize(t *testing.T) {
	c := chance(112)
	for range 1500 {
		n := c.size()
		i := c.next() % n
		k := 1 + c.below(32)
		right := count(n, i)
		if right > 80 {
			t.Fatalf("11.3: a path of %d within %d has %d digests", i, n, right)
		}
		p := api.Proof{Kind: 1, K: k, Size: n, Set: []uint64{i}, Digests: c.texts(right, k)}
		item := c.text(c.below(100))
		leads(t, "11.1", p, item, led(p, item))
		p.Digests = append(p.Digests, c.text(k))
		leadsNowhere(t, p, item, api.ErrProof)
		if right > 0 {
			p.Digests = p.Digests[:right-1]
			leadsNowhere(t, p, item, api.ErrProof)
		}
	}
}

// The greatest sizes, at both ends of each mountain.
func TestGreatSizes(t *testing.T) {
	c := chance(113)
	for _, n := range []uint64{leaves, leaves - 1, leaves - 2, leaves / 2, leaves/2 + 1, leaves - leaves/4 + 1, 1 << 32, 1<<32 + 1, 1<<32 - 1, 0x5555555555, 0xaaaaaaaaaa} {
		first := uint64(0)
		for _, m := range mountains(n) {
			for _, i := range []uint64{first, first + 1<<m.H/2, first + 1<<m.H - 1} {
				right := m.H + bits.OnesCount64(n) - 1
				p := api.Proof{Kind: 1, K: 5, Size: n, Set: []uint64{i}, Digests: c.texts(right, 5)}
				leads(t, "11.1", p, "item", led(p, "item"))
				p.Digests = c.texts(right+1, 5)
				leadsNowhere(t, p, "item", api.ErrProof)
				if right > 0 {
					p.Digests = c.texts(right-1, 5)
					leadsNowhere(t, p, "item", api.ErrProof)
				}
			}
			first += 1 << m.H
		}
	}
	p := api.Proof{Kind: 1, K: 32, Size: leaves, Set: []uint64{leaves - 1}, Digests: c.texts(40, 32)}
	d := leaf(32, "last")
	for _, other := range p.Digests {
		d = node(32, other, d)
	}
	leads(t, "11.1", p, "last", api.Root{Size: leaves, Digest: hash.Root(32, leaves, []string{d})})
	p.Set[0] = 0
	d = leaf(32, "first")
	for _, other := range p.Digests {
		d = node(32, d, other)
	}
	leads(t, "11.1", p, "first", api.Root{Size: leaves, Digest: hash.Root(32, leaves, []string{d})})
	widest := api.Proof{Kind: 1, K: 1, Size: leaves - 1, Set: []uint64{0}, Digests: c.texts(39+39, 1)}
	leads(t, "11.3", widest, "", led(widest, ""))
}

// One proof's digests held against each size and index: the number alone says where they belong.
func TestOtherNumbers(t *testing.T) {
	c := chance(114)
	for digests := range 9 {
		p := api.Proof{Kind: 1, K: 32, Digests: c.texts(digests, 32)}
		roots := map[string]int{}
		for n := range uint64(70) {
			for i := range uint64(72) {
				p.Size, p.Set = n, []uint64{i}
				if i >= n || count(n, i) != digests {
					leadsNowhere(t, p, "item", api.ErrProof)
					continue
				}
				want := led(p, "item")
				leads(t, "11.1", p, "item", want)
				if roots[want.Digest]++; roots[want.Digest] > 1 {
					t.Fatalf("11.4: two sizes or indices lead to one root")
				}
			}
		}
	}
}

// wrong are the ways in which a path's numbers are not well formed, by their names.
func wrong(p api.Proof) map[string]func(*api.Proof) {
	list := map[string]func(*api.Proof){}
	for _, kind := range []int{0, 2, 3, 4, 5, -1, 1<<8 + 1, 1<<16 + 1, 1<<32 + 1, -1<<32 + 1, math.MinInt, math.MinInt + 1, math.MaxInt} {
		list["Kind "+strconv.Itoa(kind)] = func(q *api.Proof) { q.Kind = kind }
	}
	for _, k := range []int{0, -1, -p.K, 33, 34, 64, 255, 256, 256 + p.K, 1<<16 + p.K, 1<<32 + p.K, math.MinInt, math.MinInt + p.K, math.MaxInt, math.MaxInt32} {
		list["K "+strconv.Itoa(k)] = func(q *api.Proof) { q.K = k }
	}
	for _, n := range []uint64{0, p.Set[0], leaves + 1, leaves + 2, 2 * leaves, leaves + p.Size, 1<<41 + p.Size, 1<<48 + p.Size, 1<<63 + p.Size, 1 << 63, math.MaxUint64, math.MaxUint64 - 1} {
		list["Size "+strconv.FormatUint(n, 10)] = func(q *api.Proof) { q.Size = n }
	}
	for _, old := range []uint64{1, 2, p.Size, p.Size + 1, 1 << 32, leaves, leaves + 1, math.MaxUint64} {
		list["Old "+strconv.FormatUint(old, 10)] = func(q *api.Proof) { q.Old = old }
	}
	for _, i := range []uint64{p.Size, p.Size + 1, p.Size + p.Set[0], leaves, leaves + p.Set[0], 1<<32 + p.Set[0], 1<<63 + p.Set[0], math.MaxUint64} {
		if i >= p.Size {
			list["the index "+strconv.FormatUint(i, 10)] = func(q *api.Proof) { q.Set = []uint64{i} }
		}
	}
	i := p.Set[0]
	for at, set := range [][]uint64{nil, {}, {i, i}, {i, i + 1}, {i + 1, i}, {0, i}, {i, p.Size}, {p.Size, i}, {i, math.MaxUint64}, {i, i, i}, {0, 1, 2, 3, 4, 5, 6, 7}} {
		list["the set "+strconv.Itoa(at)] = func(q *api.Proof) { q.Set = set }
	}
	return list
}

// short are the ways in which a path's digests are not as its numbers ask.
func short(p api.Proof) map[string]func(*api.Proof) {
	one := strings.Repeat("d", p.K)
	list := map[string]func(*api.Proof){
		"one more at the end":       func(q *api.Proof) { q.Digests = append(slices.Clone(q.Digests), one) },
		"one more at the beginning": func(q *api.Proof) { q.Digests = append([]string{one}, q.Digests...) },
		"nothing more at the end":   func(q *api.Proof) { q.Digests = append(slices.Clone(q.Digests), "") },
		"twice as many and one":     func(q *api.Proof) { q.Digests = append(slices.Concat(q.Digests, q.Digests), one) },
		"a hundred":                 func(q *api.Proof) { q.Digests = slices.Repeat([]string{one}, 100) },
	}
	if len(p.Digests) == 0 {
		return list
	}
	list["none"] = func(q *api.Proof) { q.Digests = nil }
	list["the first less"] = func(q *api.Proof) { q.Digests = q.Digests[1:] }
	list["the last less"] = func(q *api.Proof) { q.Digests = q.Digests[:len(q.Digests)-1] }
	list["all of another length"] = func(q *api.Proof) { q.Digests = slices.Repeat([]string{one + "d"}, len(q.Digests)) }
	list["all in one"] = func(q *api.Proof) { q.Digests = []string{strings.Join(q.Digests, "") + one} }
	list["another strength"] = func(q *api.Proof) { q.K = q.K%32 + 1 }
	for at := range p.Digests {
		for name, d := range map[string]string{"nothing": "", "shorter": one[1:], "longer": one + "d", "twice": one + one, "256 more": one + strings.Repeat("d", 256)} {
			list[name+" at "+strconv.Itoa(at)] = func(q *api.Proof) {
				q.Digests = slices.Clone(q.Digests)
				q.Digests[at] = d
			}
		}
	}
	if len(p.Digests) > 1 {
		list["one byte moved"] = func(q *api.Proof) {
			q.Digests = slices.Clone(q.Digests)
			q.Digests[0], q.Digests[1] = one+"d", one[1:]
		}
	}
	return list
}

// Each wrong way alone is enough, and comes ahead of an item that is too long.
func TestNotWellFormed(t *testing.T) {
	c := chance(115)
	long := strings.Repeat("x", longest+1)
	for _, n := range []uint64{1, 2, 3, 4, 7, 8, 21, 64, 65, 1 << 33, leaves - 1, leaves} {
		for _, i := range []uint64{0, n / 2, n - 1} {
			for _, k := range []int{1, 8, 31, 32} {
				p := api.Proof{Kind: 1, K: k, Size: n, Set: []uint64{i}, Digests: c.texts(count(n, i), k)}
				leads(t, "11.1", p, "item", led(p, "item"))
				for _, ways := range []map[string]func(*api.Proof){wrong(p), short(p)} {
					for name, change := range ways {
						q := copied(p)
						change(&q)
						for _, item := range []string{"", "item", long} {
							if r, e := path.Root(q, item); r != (api.Root{}) || e != api.ErrProof {
								t.Fatalf("11.1: Root of a path of %d within %d, strength %d, and %d bytes, with %s = %d, %x, %d", i, n, k, len(item), name, r.Size, r.Digest, e)
							}
						}
					}
				}
				leads(t, "11.1", p, "item", led(p, "item"))
			}
		}
	}
}

// With a Size of 0 no path is well formed, whatever else it has.
func TestNoItems(t *testing.T) {
	for _, set := range [][]uint64{nil, {}, {0}, {math.MaxUint64}, {0, 0}} {
		for _, digests := range [][]string{nil, {}, {"d"}, {""}} {
			leadsNowhere(t, api.Proof{Kind: 1, K: 1, Set: set, Digests: digests}, "", api.ErrProof)
		}
	}
	leadsNowhere(t, api.Proof{}, "", api.ErrProof)
	leadsNowhere(t, api.Proof{Kind: 1, K: 32}, "", api.ErrProof)
}

// Proofs of the other kinds, right as such, are no paths.
func TestOtherKinds(t *testing.T) {
	one := leaf(32, "a")
	for _, p := range []api.Proof{
		{Kind: 2, K: 32, Size: 1, Set: []uint64{0}},
		{Kind: 2, K: 32, Size: 2, Set: []uint64{0}, Digests: []string{one}},
		{Kind: 2, K: 32, Size: 2, Set: []uint64{0, 1}},
		{Kind: 3, K: 32},
		{Kind: 3, K: 32, Old: 1, Size: 1, Digests: []string{one}},
		{Kind: 3, K: 32, Size: 1, Digests: []string{one}},
	} {
		leadsNowhere(t, p, "a", api.ErrProof)
	}
}

// An item's length is held against MaxItem once the proof is well formed; "" is an item.
func TestItemLengths(t *testing.T) {
	c := chance(116)
	long := strings.Repeat("x", 2*longest)
	for _, n := range []uint64{1, 2, 7, 100, leaves} {
		i := n - 1
		p := api.Proof{Kind: 1, K: 32, Size: n, Set: []uint64{i}, Digests: c.texts(count(n, i), 32)}
		for _, length := range []int{0, 1, 2, longest - 1, longest} {
			leads(t, "11.1", p, long[:length], led(p, long[:length]))
		}
		for _, length := range []int{longest + 1, longest + 2, 2 * longest} {
			leadsNowhere(t, p, long[:length], api.ErrItem)
		}
		p.Old = 1
		for _, length := range []int{0, longest, longest + 1, 2 * longest} {
			leadsNowhere(t, p, long[:length], api.ErrProof)
		}
	}
}

func TestLongestItems(t *testing.T) {
	list := []string{strings.Repeat("a", longest), "", strings.Repeat("\xff", longest)}
	f := of(t, 32, list)
	for n := uint64(1); n <= 3; n++ {
		root, _ := f.Root(n)
		for i := range n {
			leads(t, "11.2", proved(t, f, n, i), list[i], root)
		}
	}
}

// changed are texts of the same length, each unlike d in some bit.
func changed(d string) []string {
	var list []string
	for _, at := range []int{0, len(d) / 2, len(d) - 1} {
		for _, bit := range []byte{1, 16, 128} {
			row := []byte(d)
			row[at] ^= bit
			list = append(list, string(row))
		}
	}
	return list
}

// With another digest in one place there is another root: of 32 bytes no two texts of one digest are found here.
func TestHangsOnEachDigest(t *testing.T) {
	list := counted(70)
	f := of(t, 32, list)
	for _, n := range []uint64{2, 3, 7, 8, 13, 31, 32, 33, 63, 64, 70} {
		root, _ := f.Root(n)
		for i := range n {
			p := proved(t, f, n, i)
			for at, was := range p.Digests {
				for _, other := range changed(was) {
					p.Digests[at] = other
					r, e := path.Root(p, list[i])
					if e != api.OK || r == root || r != led(p, list[i]) {
						t.Fatalf("11.4: the path of %d within %d with another digest at %d leads to %x, %d", i, n, at, r.Digest, e)
					}
				}
				p.Digests[at] = was
			}
			leads(t, "11.4", p, list[i], root)
		}
	}
}

// At small strengths another digest may lead to the same root: then two unlike texts on the two ways have one digest.
func TestHangsOnEachDigestOrTwoTexts(t *testing.T) {
	c := chance(117)
	alike := 0
	for _, k := range []int{1, 2} {
		for range 3000 {
			n := c.size()
			i := c.next() % n
			if count(n, i) == 0 {
				continue
			}
			p := api.Proof{Kind: 1, K: k, Size: n, Set: []uint64{i}, Digests: c.texts(count(n, i), k)}
			q := copied(p)
			at := c.below(len(q.Digests))
			q.Digests[at] = changed(q.Digests[at])[c.below(9)]
			r, e := path.Root(p, "item")
			s, e2 := path.Root(q, "item")
			if e != api.OK || e2 != api.OK {
				t.Fatalf("11.1: Root = %d, %d", e, e2)
			}
			if r == s {
				alike++
				if !collide(k, texts(p, "item"), texts(q, "item")) {
					t.Fatalf("11.4: with another digest at %d of a path of %d within %d the same root, and no two texts of one digest", at, i, n)
				}
			}
		}
	}
	if alike == 0 {
		t.Error("no two proofs lead to one root: nothing was tried")
	}
}

// collide tells whether two ways of the same form have unlike texts of one digest at one step.
func collide(k int, a, b []string) bool {
	for i := range a {
		if a[i] != b[i] && digest(k, a[i]) == digest(k, b[i]) {
			return true
		}
	}
	return false
}

// Another item, two digests in each other's places, another strength: another root.
func TestHangsOnAllElse(t *testing.T) {
	list := counted(40)
	f := of(t, 32, list)
	for n := uint64(1); n <= 40; n++ {
		root, _ := f.Root(n)
		for i := range n {
			p := proved(t, f, n, i)
			for _, item := range []string{"", list[i] + "\x00", list[i][1:], "\x00" + list[i], list[(i+1)%40]} {
				if r, e := path.Root(p, item); e != api.OK || r == root || r.Size != n {
					t.Fatalf("11.1: the path of %d within %d with another item leads to %x, %d", i, n, r.Digest, e)
				}
			}
			for at := 1; at < len(p.Digests); at++ {
				q := copied(p)
				q.Digests[at-1], q.Digests[at] = q.Digests[at], q.Digests[at-1]
				if r, e := path.Root(q, list[i]); e != api.OK || r == root {
					t.Fatalf("11.4: the path of %d within %d with two digests changed about leads to %x, %d", i, n, r.Digest, e)
				}
			}
		}
	}
}

// A node's digest is no leaf's: an item that is a node's text leads elsewhere.
func TestNodeIsNoItem(t *testing.T) {
	a, b, c, d := leaf(32, "a"), leaf(32, "b"), leaf(32, "c"), leaf(32, "d")
	f := of(t, 32, []string{"a", "b", "c", "d"})
	root, _ := f.Root(4)
	two := api.Proof{Kind: 1, K: 32, Size: 2, Set: []uint64{0}, Digests: []string{node(32, c, d)}}
	for _, item := range []string{a + b, "\x01" + a + b, node(32, a, b)} {
		if r, e := path.Root(two, item); e != api.OK || r.Digest == root.Digest {
			t.Errorf("11.1: a node as an item leads to %x, %d", r.Digest, e)
		}
	}
}

// With one byte two unlike items of 257 have one digest: the proof of the one leads with the other to the same root.
func TestTwoItemsOfOneDigest(t *testing.T) {
	list := counted(257)
	f := of(t, 1, list)
	root, _ := f.Root(257)
	pairs, first := 0, map[string]uint64{}
	for j, item := range list {
		i, ok := first[leaf(1, item)]
		if !ok {
			first[leaf(1, item)] = uint64(j)
			continue
		}
		pairs++
		leads(t, "11.1", proved(t, f, 257, i), item, root)
		leads(t, "11.1", proved(t, f, 257, uint64(j)), list[i], root)
	}
	if pairs == 0 {
		t.Error("no two items have one digest")
	}
}

// A path within the first n is the same, whatever was appended behind.
func TestLaterItemsChangeNothing(t *testing.T) {
	list := counted(100)
	f := of(t, 9, nil)
	m := modelOf(9, list)
	var early []api.Proof
	for n := uint64(1); n <= 100; n++ {
		f.Append(list[n-1])
		for i := range n {
			early = append(early, proved(t, f, n, i))
		}
	}
	for _, p := range early {
		n, i := p.Size, p.Set[0]
		if !same(p, m.path(n, i)) {
			t.Fatalf("R3: the path of %d within %d changed as the forest grew", i, n)
		}
		proves(t, "11.1", f, n, i, p)
	}
}

// Proving and checking change nothing of the forest, and asked twice they answer the same.
func TestAskedTwice(t *testing.T) {
	list := counted(50)
	f := of(t, 12, list)
	for n := uint64(0); n <= 52; n++ {
		for i := uint64(0); i <= 52; i++ {
			p, e := path.Prove(f, n, i)
			q, e2 := path.Prove(f, n, i)
			if !same(p, q) || e != e2 {
				t.Fatalf("R11: Prove(%d, %d) twice = %s, %d and %s, %d", n, i, shown(p), e, shown(q), e2)
			}
			if e != api.OK {
				continue
			}
			r, e := path.Root(p, list[i])
			s, e2 := path.Root(q, list[i])
			if r != s || e != e2 {
				t.Fatalf("R11: Root of two like paths = %x, %d and %x, %d", r.Digest, e, s.Digest, e2)
			}
		}
	}
	untouched(t, f, list, 12)
}

// untouched holds a forest's nodes and roots against its list.
func untouched(t *testing.T, f *forest.Forest, list []string, k int) {
	t.Helper()
	if f.Size() != uint64(len(list)) || f.Strength() != k {
		t.Fatalf("R3: the forest has the size %d, the strength %d", f.Size(), f.Strength())
	}
	for b, want := range modelOf(k, list).digests {
		if d, ok := f.Digest(b); d != want || !ok {
			t.Fatalf("R3: the forest has %x, %t at (%d, %d), want %x", d, ok, b.H, b.K, want)
		}
	}
	for n := range uint64(len(list)) + 1 {
		want, _ := plain.Root(k, list, n)
		if r, e := f.Root(n); r != want || e != api.OK {
			t.Fatalf("R3: the forest's Root(%d) = %x, %d, want %x", n, r.Digest, e, want.Digest)
		}
	}
}

func TestAnsweredListsAreTheCallers(t *testing.T) {
	list := counted(45)
	f, m := of(t, 7, list), modelOf(7, list)
	for n := uint64(1); n <= 45; n++ {
		for i := range n {
			want := m.path(n, i)
			first, second := proved(t, f, n, i), proved(t, f, n, i)
			other := proved(t, f, 45, n-1)
			spoil(first.Digests, "written over")
			spoil(first.Set, 99)
			if !same(second, want) || !same(other, m.path(45, n-1)) {
				t.Fatalf("R3: two answers of Prove(%d, %d) share room", n, i)
			}
			spoil(second.Digests, "written over")
			spoil(second.Set, 99)
			proves(t, "R3: an answer was written over", f, n, i, want)
		}
	}
	untouched(t, f, list, 7)
}

// The proof that is handed to Root stays as it was, and so does the room behind its lists.
func TestHandedProofStays(t *testing.T) {
	c := chance(118)
	long := strings.Repeat("x", longest+1)
	for _, n := range []uint64{1, 2, 3, 6, 7, 8, 37, 1 << 20, leaves - 1, leaves} {
		for _, i := range []uint64{0, n / 2, n - 1} {
			right := count(n, i)
			digests, set := c.texts(right+5, 4), []uint64{i, 77, 78, 79}
			wasDigests, wasSet := slices.Clone(digests), slices.Clone(set)
			for _, item := range []string{"", "item", long} {
				for _, part := range [][]string{digests[:right], digests[:right+1]} { // taken, and refused
					p := api.Proof{Kind: 1, K: 4, Size: n, Set: set[:1], Digests: part}
					path.Root(p, item)
					if !slices.Equal(digests, wasDigests) || !slices.Equal(set, wasSet) {
						t.Fatalf("R3: Root changed the proof of %d within %d that it was handed, or the room behind it", i, n)
					}
				}
			}
			p := api.Proof{Kind: 1, K: 4, Size: n, Set: set[:1], Digests: digests[:right]}
			want := led(p, "item")
			leads(t, "R3", p, "item", want)
			r, _ := path.Root(p, "item")
			spoil(p.Digests, "over")
			spoil(p.Set, 0)
			if r != want {
				t.Fatal("R3: a root changed with the proof that was handed in")
			}
			leads(t, "R3", api.Proof{Kind: 1, K: 4, Size: n, Set: []uint64{i}, Digests: wasDigests[:right]}, "item", want)
		}
	}
}

// Forests of one strength and of others in turns: each path is its own forest's.
func TestForestsInTurns(t *testing.T) {
	c := chance(119)
	strengths := []int{32, 32, 1, 5}
	var forests []*forest.Forest
	lists := make([][]string, len(strengths))
	for _, k := range strengths {
		forests = append(forests, of(t, k, nil))
	}
	for range 400 {
		at := c.below(len(forests))
		item := c.text(c.below(30))
		forests[at].Append(item)
		lists[at] = append(lists[at], item)
		at = c.below(len(forests))
		f, list := forests[at], lists[at]
		if len(list) == 0 {
			provesNot(t, f, 0, 0, api.ErrIndex)
			continue
		}
		n := 1 + uint64(c.below(len(list)))
		i := c.next() % n
		p := proved(t, f, n, i)
		if !same(p, modelOf(f.Strength(), list).path(n, i)) {
			t.Fatalf("R11: Prove(%d, %d) of one forest of several = %s", n, i, shown(p))
		}
		root, _ := f.Root(n)
		leads(t, "11.2", p, list[i], root)
	}
}
