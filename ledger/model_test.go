package ledger_test

import (
	"crypto/sha256"
	"encoding/binary"
	"fmt"
	"math/bits"
	"slices"
	"strconv"
	"strings"
	"testing"

	"massif/api"
	"massif/batch"
	"massif/codec"
	"massif/disk"
	"massif/files"
	"massif/forest"
	"massif/kin"
	"massif/path"
)

// The document's numbers.
const (
	maxItem  = 1 << 20
	maxItems = 1 << 16
	longest  = 1 << 28
	nodeLen  = 40
	markLen  = 64
	sector   = 64
	greatest = 1<<64 - 1
)

// great is room for all that a test writes.
const great = 1 << 40

// chance gives numbers by a rule, the same ones in every run.
type chance uint64

func (c *chance) next() uint64 {
	*c = *c*6364136223846793005 + 1442695040888963407
	return uint64(*c)>>32 ^ uint64(*c)<<32
}

// below is a number from 0 to n - 1.
func (c *chance) below(n int) int {
	return int(c.next() % (1 << 32) * uint64(n) >> 32)
}

// text has n bytes: of any kind, or all one, which may be zero.
func (c *chance) text(n int) string {
	if c.below(3) == 0 {
		return strings.Repeat(pick(c, "\x00", "x", "\xff"), n)
	}
	row := make([]byte, n)
	for i := range row {
		row[i] = byte(c.next())
	}
	return string(row)
}

// items are n texts of no byte, of one, of some, or of more than a sector.
func (c *chance) items(n int) []string {
	list := make([]string, n)
	for i := range list {
		list[i] = c.text(pick(c, 0, 0, 1, 2, 10, 40, 55, 56, 57, 64, 100, 200))
	}
	return list
}

// set has at most count numbers below n, which is not 0.
func (c *chance) set(n, count int) []uint64 {
	var list []uint64
	for range 1 + c.below(count) {
		list = append(list, uint64(c.below(n)))
	}
	slices.Sort(list)
	return slices.Compact(list)
}

// keep is a list of choices, of none up to nineteen.
func (c *chance) keep() []bool {
	list := make([]bool, c.below(20))
	for i := range list {
		list[i] = c.below(2) == 0
	}
	return list
}

// pick is one of a list.
func pick[T any](c *chance, list ...T) T {
	return list[c.below(len(list))]
}

func zeros(n int) string {
	return strings.Repeat("\x00", n)
}

// counted are n items, each unlike all others.
func counted(n int) []string {
	list := make([]string, n)
	for i := range list {
		list[i] = "item " + strconv.Itoa(i)
	}
	return list
}

// overlong is an item of one byte too many.
func overlong() string {
	return zeros(maxItem + 1)
}

// Digests, by DOC.md's section 'Words' and the library's SHA-256.

func digest(k int, text string) string {
	sum := sha256.Sum256([]byte(text))
	return string(sum[:k])
}

func leaf(k int, item string) string { return digest(k, "\x00"+item) }

func node(k int, a, b string) string { return digest(k, "\x01"+a+b) }

// tree is the node over as many items as a block has.
func tree(k int, items []string) string {
	if len(items) == 1 {
		return leaf(k, items[0])
	}
	half := len(items) / 2
	return node(k, tree(k, items[:half]), tree(k, items[half:]))
}

// rootOf commits to a list.
func rootOf(k int, items []string) api.Root {
	var peaks []string
	left := items
	for h := 63; h >= 0; h-- {
		if len(items)>>h&1 == 1 {
			peaks = append(peaks, tree(k, left[:1<<h]))
			left = left[1<<h:]
		}
	}
	bag := ""
	for i, peak := range slices.Backward(peaks) {
		if i == len(peaks)-1 {
			bag = peak
		} else {
			bag = digest(k, "\x02"+peak+bag)
		}
	}
	head := string(binary.BigEndian.AppendUint64([]byte{3}, uint64(len(items))))
	return api.Root{Size: uint64(len(items)), Digest: digest(k, head+bag)}
}

// newNodes are the nodes that come with a list's last item, by their places.
func newNodes(k int, items []string) []string {
	n := len(items)
	var list []string
	for h := 0; h <= bits.TrailingZeros(uint(n)); h++ {
		list = append(list, tree(k, items[n-1<<h:]))
	}
	return list
}

// nodesOf is how many nodes n items have.
func nodesOf(n int) int {
	return 2*n - bits.OnesCount(uint(n))
}

// forestOf has the nodes of a list.
func forestOf(k int, items []string) *forest.Forest {
	f, _ := forest.New(k)
	for _, item := range items {
		f.Append(item)
	}
	return f
}

// row is the bytes of a proof that must be well formed.
func row(p api.Proof, e api.Errno) (string, api.Errno) {
	if e != 0 {
		panic("no proof")
	}
	return codec.Encode(p)
}

// model is an archive by the chapter's words: a list, beside a store that is told which digests the new nodes are.
type model struct {
	k      int
	d      *disk.Disk
	s      *files.Store
	items  []string
	closed bool
}

func openModel(d *disk.Disk, k int) (*model, api.Errno) {
	if k < 1 || k > 32 {
		return nil, 70
	}
	if d == nil {
		return nil, 170
	}
	s, e := files.Open(d, k)
	if e != 0 {
		return nil, e
	}
	m := &model{k: k, d: d, s: s}
	place := uint64(0)
	for i := range s.Size() {
		item, _ := s.Item(i)
		m.items = append(m.items, item)
		for _, want := range newNodes(k, m.items) {
			if got, _ := s.Node(place); got != want {
				return nil, 190
			}
			place++
		}
	}
	return m, 0
}

func (m *model) append(items ...string) (int, api.Errno) {
	if m.closed {
		return 0, 200
	}
	for at, item := range items {
		if len(item) > maxItem {
			return at, 100
		}
		if len(m.items) == maxItems {
			return at, 101
		}
		will := append(slices.Clip(m.items), item)
		if e := m.s.Add(item, newNodes(m.k, will)); e != 0 {
			return at, e
		}
		m.items = will
	}
	return len(items), 0
}

func (m *model) size() (uint64, api.Errno) {
	if m.closed {
		return 0, 200
	}
	return uint64(len(m.items)), 0
}

func (m *model) root(n uint64) (api.Root, api.Errno) {
	if e := m.within(n); e != 0 {
		return api.Root{}, e
	}
	return rootOf(m.k, m.items[:n]), 0
}

func (m *model) get(i uint64) (string, api.Errno) {
	if m.closed {
		return "", 200
	}
	if i >= uint64(len(m.items)) {
		return "", 31
	}
	if m.d.Down() {
		return "", 170
	}
	return m.items[i], 0
}

func (m *model) path(n, i uint64) (string, api.Errno) {
	if e := m.within(n); e != 0 {
		return "", e
	}
	if i >= n {
		return "", 31
	}
	return row(path.Prove(forestOf(m.k, m.items[:n]), n, i))
}

func (m *model) batch(n uint64, set ...uint64) (string, api.Errno) {
	if e := m.within(n); e != 0 {
		return "", e
	}
	for at := 1; at < len(set); at++ {
		if set[at-1] >= set[at] {
			return "", 40
		}
	}
	if len(set) == 0 {
		return "", 40
	}
	if set[len(set)-1] >= n {
		return "", 31
	}
	return row(batch.Prove(forestOf(m.k, m.items[:n]), n, set))
}

func (m *model) kin(old, n uint64) (string, api.Errno) {
	if e := m.within(n); e != 0 {
		return "", e
	}
	if old > n {
		return "", 41
	}
	return row(kin.Prove(forestOf(m.k, m.items[:n]), old, n))
}

// within is the error of a size that there is not.
func (m *model) within(n uint64) api.Errno {
	if m.closed {
		return 200
	}
	if n > uint64(len(m.items)) {
		return 30
	}
	return 0
}

func (m *model) close() api.Errno {
	if m.closed {
		return 200
	}
	m.closed = true
	return 0
}

// diskOf is a disk with files, all synced.
func diskOf(t *testing.T, room int, list []api.File) *disk.Disk {
	t.Helper()
	d, e := disk.Open(room, list)
	if d == nil || e != 0 {
		t.Fatalf("a disk of %s: %d", shown(list), e)
	}
	return d
}

// laid are the files that the store of a list has, with these nodes.
func laid(t *testing.T, k int, items, nodes []string) []api.File {
	t.Helper()
	d := disk.New(great)
	s, _ := files.Open(d, k)
	for i, item := range items {
		if e := s.Add(item, nodes[nodesOf(i):nodesOf(i+1)]); e != 0 {
			t.Fatalf("Add of the item %d: %d", i, e)
		}
	}
	return d.Files()
}

// nodesIn are all nodes of a list, by their places.
func nodesIn(k int, items []string) []string {
	var list []string
	for n := range items {
		list = append(list, newNodes(k, items[:n+1])...)
	}
	return list
}

// rightly are the files of a list whose nodes are right.
func rightly(t *testing.T, k int, items []string) []api.File {
	t.Helper()
	return laid(t, k, items, nodesIn(k, items))
}

// shown is a list of files as text.
func shown(list []api.File) string {
	var s strings.Builder
	for _, f := range list {
		fmt.Fprintf(&s, "%q=%q ", f.Name, f.Data)
	}
	return short(s.String())
}

// short is a text as a fault tells it.
func short(s string) string {
	if len(s) <= 600 {
		return s
	}
	return fmt.Sprintf("%s.. (%d)", s[:600], len(s))
}
