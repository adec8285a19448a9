package follow_test

import (
	"crypto/sha256"
	"encoding/binary"
	"fmt"
	"slices"
	"strconv"
	"strings"
	"testing"

	"massif/api"
	"massif/batch"
	"massif/codec"
	"massif/forest"
	"massif/kin"
	"massif/light"
	"massif/path"
)

// The document's numbers.
const (
	leaves   = 1 << 40
	greatest = 1<<64 - 1
)

// chance gives numbers by a rule, the same ones in every run.
type chance uint64

func (c *chance) next() uint64 {
	*c = *c*6364136223846793005 + 1442695040888963407
	return uint64(*c)>>32 ^ uint64(*c)<<32
}

// below is a number from 0 to n - 1.
func (c *chance) below(n int) int {
	return int(c.next() % (1 << 32) * uint64(n) >> 32)
}

// text has n bytes of any kind.
func (c *chance) text(n int) string {
	row := make([]byte, n)
	for i := range row {
		row[i] = byte(c.next())
	}
	return string(row)
}

// texts are count digests of strength k that no list has.
func (c *chance) texts(count, k int) []string {
	list := make([]string, count)
	for i := range list {
		list[i] = c.text(k)
	}
	return list
}

// items are n texts of up to 20 bytes, some of them nothing.
func (c *chance) items(n int) []string {
	list := make([]string, n)
	for i := range list {
		list[i] = c.text(c.below(21))
	}
	return list
}

// order is the numbers below n, in any order.
func (c *chance) order(n int) []uint64 {
	list := make([]uint64, n)
	for i := range list {
		at := c.below(i + 1)
		list[i] = list[at]
		list[at] = uint64(i)
	}
	return list
}

// pick is one of a list.
func pick[T any](c *chance, list ...T) T {
	return list[c.below(len(list))]
}

func zeros(n int) string {
	return strings.Repeat("\x00", n)
}

// counted are n items, each unlike all others.
func counted(n int) []string {
	list := make([]string, n)
	for i := range list {
		list[i] = "item " + strconv.Itoa(i)
	}
	return list
}

// branch is a list that has the first n items of another one, and more of its own.
func branch(list []string, n, more int) []string {
	other := slices.Clone(list[:n])
	for i := range more {
		other = append(other, "other "+strconv.Itoa(i))
	}
	return other
}

// Digests, by DOC.md's section 'Words' and the library's SHA-256.

func digest(k int, text string) string {
	sum := sha256.Sum256([]byte(text))
	return string(sum[:k])
}

func leaf(k int, item string) string { return digest(k, "\x00"+item) }

func node(k int, a, b string) string { return digest(k, "\x01"+a+b) }

// tree is the node over as many items as a block has.
func tree(k int, items []string) string {
	if len(items) == 1 {
		return leaf(k, items[0])
	}
	half := len(items) / 2
	return node(k, tree(k, items[:half]), tree(k, items[half:]))
}

// rootOf commits to a list.
func rootOf(k int, items []string) api.Root {
	var peaks []string
	left := items
	for h := 63; h >= 0; h-- {
		if len(items)>>h&1 == 1 {
			peaks = append(peaks, tree(k, left[:1<<h]))
			left = left[1<<h:]
		}
	}
	bag := ""
	for i, peak := range slices.Backward(peaks) {
		if i == len(peaks)-1 {
			bag = peak
		} else {
			bag = digest(k, "\x02"+peak+bag)
		}
	}
	head := string(binary.BigEndian.AppendUint64([]byte{3}, uint64(len(items))))
	return api.Root{Size: uint64(len(items)), Digest: digest(k, head+bag)}
}

// empty is the commitment to no item.
func empty(k int) api.Root {
	return api.Root{Size: 0, Digest: digest(k, "\x03"+zeros(8))}
}

// archive is a list with all that commits to its beginnings.
type archive struct {
	k     int
	list  []string
	nodes *forest.Forest
	roots []api.Root // of each size
}

func of(t *testing.T, k int, list []string) archive {
	t.Helper()
	nodes, e := forest.New(k)
	if nodes == nil || e != 0 {
		t.Fatalf("no forest of strength %d: %d", k, e)
	}
	a := archive{k: k, list: list, nodes: nodes, roots: []api.Root{rootOf(k, nil)}}
	for n, item := range list {
		nodes.Append(item)
		a.roots = append(a.roots, rootOf(k, list[:n+1]))
	}
	return a
}

// size is how many items there are.
func (a archive) size() int { return len(a.list) }

// encoded are the bytes of a proof that came without an error.
func encoded(t *testing.T, p api.Proof, e api.Errno) string {
	t.Helper()
	s, wrong := codec.Encode(p)
	if e != 0 || wrong != 0 {
		t.Fatalf("no proof: %d, %d of %+v", e, wrong, p)
	}
	return s
}

// kin proves that the first m items are a beginning of the first n.
func (a archive) kin(t *testing.T, m, n uint64) string {
	t.Helper()
	p, e := kin.Prove(a.nodes, m, n)
	return encoded(t, p, e)
}

// items proves where the last of the first n items stands, in both ways.
func (a archive) items(t *testing.T, n uint64) []string {
	t.Helper()
	p, e := path.Prove(a.nodes, n, n-1)
	q, g := batch.Prove(a.nodes, n, []uint64{n - 1})
	return []string{encoded(t, p, e), encoded(t, q, g)}
}

// byHand is a proof of two sizes that no list gave, and the commitments to which it leads.
func (c *chance) byHand(t *testing.T, k int, m, n uint64) (old, now api.Root, proof string) {
	t.Helper()
	p := api.Proof{Kind: 3, K: k, Old: m, Size: n}
	count, e := codec.Count(p)
	p.Digests = c.texts(int(count), k)
	old, now, wrong := kin.Roots(p)
	if e != 0 || wrong != 0 {
		t.Fatalf("no proof of %d and %d: %d, %d", m, n, e, wrong)
	}
	return old, now, encoded(t, p, 0)
}

// from is a proof by hand that leads from a commitment to another one of the size n; it is soon found at strength 1.
func (c *chance) from(t *testing.T, k int, old api.Root, n uint64) (api.Root, string) {
	t.Helper()
	for range 1 << 13 {
		if first, now, s := c.byHand(t, k, old.Size, n); first == old {
			return now, s
		}
	}
	t.Fatalf("no proof from %s to one of %d", one(old), n)
	return api.Root{}, ""
}

// into is a proof by hand that leads from another commitment of the size m into one.
func (c *chance) into(t *testing.T, k int, m uint64, now api.Root) (api.Root, string) {
	t.Helper()
	for range 1 << 13 {
		if old, second, s := c.byHand(t, k, m, now.Size); second == now {
			return old, s
		}
	}
	t.Fatalf("no proof from one of %d into %s", m, one(now))
	return api.Root{}, ""
}

// model is a follower by the chapter's words: lists alone, gone through for every word.
type model struct {
	k     int
	taken []api.Root // as they came
	forks [][2]api.Root
}

func newModel(k int, first api.Root) (*model, api.Errno) {
	if k < 1 || k > 32 {
		return nil, 70
	}
	if e := right(k, first); e != 0 {
		return nil, e
	}
	return &model{k: k, taken: []api.Root{first}}, 0
}

// right is the error of what no commitment of strength k can be.
func right(k int, c api.Root) api.Errno {
	if c.Size > leaves {
		return 30
	}
	if len(c.Digest) != k {
		return 150
	}
	return 0
}

func (m *model) hear(c api.Root, proof string) api.Errno {
	if e := right(m.k, c); e != 0 {
		return e
	}
	if c.Size > m.now().Size {
		e := light.Kin(m.k, m.now(), c, proof)
		if e == 0 {
			m.taken = append(m.taken, c)
		}
		return e
	}
	if slices.Contains(m.taken, c) {
		return 0
	}
	for _, other := range m.taken {
		if other.Size == c.Size {
			return m.fork(other, c, proof)
		}
	}
	if light.Kin(m.k, c, m.behind(c.Size), proof) != 0 {
		return 211
	}
	return 0
}

func (m *model) fork(taken, c api.Root, proof string) api.Errno {
	if e := light.Kin(m.k, m.ahead(c.Size), c, proof); e != 0 {
		return e
	}
	if pair := [2]api.Root{taken, c}; !slices.Contains(m.forks, pair) {
		m.forks = append(m.forks, pair)
	}
	return 210
}

func (m *model) now() api.Root {
	return m.ahead(greatest)
}

// ahead is the greatest one below a size.
func (m *model) ahead(size uint64) api.Root {
	var found []api.Root
	for _, c := range m.taken {
		if c.Size < size && (found == nil || c.Size > found[0].Size) {
			found = []api.Root{c}
		}
	}
	if found == nil {
		return empty(m.k)
	}
	return found[0]
}

// behind is the least one above a size.
func (m *model) behind(size uint64) api.Root {
	found := m.now()
	for _, c := range m.taken {
		if c.Size > size && c.Size < found.Size {
			found = c
		}
	}
	return found
}

func (m *model) known() []api.Root {
	list := slices.Clone(m.taken)
	slices.SortFunc(list, func(a, b api.Root) int {
		if a.Size < b.Size {
			return -1
		}
		return 1
	})
	return list
}

// one is a commitment as text.
func one(c api.Root) string {
	return fmt.Sprintf("%d:%.4x(%d)", c.Size, c.Digest, len(c.Digest))
}

// shown are commitments as text.
func shown(list []api.Root) string {
	var s strings.Builder
	for _, c := range list {
		s.WriteString(one(c) + " ")
	}
	return short(s.String())
}

// pairs are forks as text.
func pairs(list [][2]api.Root) string {
	var s strings.Builder
	for _, x := range list {
		s.WriteString(one(x[0]) + "/" + one(x[1]) + " ")
	}
	return short(s.String())
}

// short is a text as a fault tells it.
func short(s string) string {
	if len(s) <= 600 {
		return s
	}
	return fmt.Sprintf("%s.. (%d)", s[:600], len(s))
}
