package files_test

import (
	"fmt"
	"hash/crc32"
	"math/bits"
	"slices"
	"strings"

	"massif/api"
	"massif/disk"
)

// The document's numbers.
const (
	maxItem  = 1 << 20
	maxItems = 1 << 16
	longest  = 1 << 28
	nodeLen  = 40
	markLen  = 64
	sector   = 64
	greatest = 1<<64 - 1
)

// great is room for all that a test writes.
const great = 1 << 40

// chance gives numbers by a rule, the same ones in every run.
type chance uint64

func (c *chance) next() uint64 {
	*c = *c*6364136223846793005 + 1442695040888963407
	return uint64(*c)>>32 ^ uint64(*c)<<32
}

// below is a number from 0 to n - 1.
func (c *chance) below(n int) int {
	return int(c.next() % (1 << 32) * uint64(n) >> 32)
}

// text has n bytes: of any kind, or all one, which may be zero.
func (c *chance) text(n int) string {
	if c.below(3) == 0 {
		return strings.Repeat(pick(c, "\x00", "x", "\xff"), n)
	}
	row := make([]byte, n)
	for i := range row {
		row[i] = byte(c.next())
	}
	return string(row)
}

// item is one of no byte, of one, of some, or of more than a sector.
func (c *chance) item() string {
	return c.text(pick(c, 0, 0, 1, 2, 10, 40, 55, 56, 57, 64, 100, 200))
}

// digests are n of strength k.
func (c *chance) digests(k, n int) []string {
	list := make([]string, n)
	for i := range list {
		list[i] = c.text(k)
	}
	return list
}

// keep is a list of choices, of none up to nineteen.
func (c *chance) keep() []bool {
	list := make([]bool, c.below(20))
	for i := range list {
		list[i] = c.below(2) == 0
	}
	return list
}

// pick is one of a list.
func pick[T any](c *chance, list ...T) T {
	return list[c.below(len(list))]
}

func zeros(n int) string {
	return strings.Repeat("\x00", n)
}

func four(n uint32) string {
	return string([]byte{byte(n >> 24), byte(n >> 16), byte(n >> 8), byte(n)})
}

func eight(n uint64) string {
	return four(uint32(n>>32)) + four(uint32(n))
}

// sum is the one of chapter 5, as the library reckons it.
func sum(text string) uint32 {
	return crc32.Checksum([]byte(text), crc32.MakeTable(crc32.Castagnoli))
}

// summed is a text with its sum behind it.
func summed(text string) string {
	return text + four(sum(text))
}

// The records of chapter 18, by its words.

func payload(item string) string {
	return summed(four(uint32(len(item))) + item)
}

func node(p int, digest string) string {
	return summed(digest + zeros(32-len(digest)) + four(uint32(p)))
}

// marker is a marker's fields.
type marker struct {
	k                  int
	size, items, nodes uint64
	chain              uint32
}

func (m marker) row() string {
	return summed("msf\x01" + string([]byte{byte(m.k)}) + zeros(3) + eight(m.size) + eight(m.items) + eight(m.nodes) + four(m.chain) + zeros(24))
}

// nodesOf is how many nodes n items have.
func nodesOf(n int) int {
	return 2*n - bits.OnesCount(uint(n))
}

// newNodes is how many of them come with the item n.
func newNodes(n int) int {
	return nodesOf(n+1) - nodesOf(n)
}

// archive is what a store has: its items, and the digests of all nodes by their places.
type archive struct {
	items, nodes []string
}

// archiveOf has so many items.
func archiveOf(c *chance, k, n int) archive {
	a := archive{}
	for range n {
		a = a.with(c.item(), c.digests(k, newNodes(len(a.items))))
	}
	return a
}

// with is the archive and one item more.
func (a archive) with(item string, nodes []string) archive {
	return archive{append(slices.Clip(a.items), item), append(slices.Clip(a.nodes), nodes...)}
}

// first is the archive of the first n items.
func (a archive) first(n int) archive {
	return archive{a.items[:n], a.nodes[:nodesOf(n)]}
}

func (a archive) equal(b archive) bool {
	return slices.Equal(a.items, b.items) && slices.Equal(a.nodes, b.nodes)
}

func (a archive) String() string {
	return fmt.Sprintf("%d items %s", len(a.items), short(fmt.Sprintf("%q %q", a.items, a.nodes)))
}

// rows are the items' payloads' records and, item by item, the records of the new nodes.
func (a archive) rows() (payloads []string, nodes [][]string) {
	for i, item := range a.items {
		payloads = append(payloads, payload(item))
		var list []string
		for p := nodesOf(i); p < nodesOf(i+1); p++ {
			list = append(list, node(p, a.nodes[p]))
		}
		nodes = append(nodes, list)
	}
	return payloads, nodes
}

// three are the bytes of the three files.
type three struct {
	items, nodes, marks string
}

// laid are the archive's files, by the chapter's words.
func (a archive) laid(k int) three {
	payloads, nodes := a.rows()
	return lay(k, payloads, nodes, func(i int, m marker) marker { return m })
}

// lay joins records, whatever they are, and writes the markers that they ask for, as change leaves them; each chain goes on from the marker as it is written.
func lay(k int, payloads []string, nodes [][]string, change func(i int, m marker) marker) three {
	var items, rows, marks strings.Builder
	chain := uint32(0)
	for i, payload := range payloads {
		own := strings.Join(nodes[i], "")
		items.WriteString(payload)
		rows.WriteString(own)
		m := change(i, marker{
			k:     k,
			size:  uint64(i) + 1,
			items: uint64(items.Len()),
			nodes: nodeLen * uint64(nodesOf(i+1)),
			chain: sum(four(chain) + payload + own),
		})
		chain = m.chain
		marks.WriteString(m.row())
	}
	return three{items.String(), rows.String(), marks.String()}
}

// list are the files as a disk tells them.
func (f three) list() []api.File {
	var list []api.File
	for _, x := range []api.File{{Name: "items", Data: f.items}, {Name: "marks", Data: f.marks}, {Name: "nodes", Data: f.nodes}} {
		if x.Data != "" {
			list = append(list, x)
		}
	}
	return list
}

// filesOf are the three of a list.
func filesOf(list []api.File) three {
	f := three{}
	for _, x := range list {
		switch x.Name {
		case "items":
			f.items = x.Data
		case "nodes":
			f.nodes = x.Data
		case "marks":
			f.marks = x.Data
		}
	}
	return f
}

// read is the archive with whose files the three begin; false, if there is none with as many items as marks has whole markers, but that the last may be zeros.
func (f three) read(k int) (archive, bool) {
	n := len(f.marks) / markLen
	if n > 0 && f.marks[(n-1)*markLen:n*markLen] == zeros(markLen) {
		n--
	}
	a := archive{}
	if n > maxItems || len(f.nodes) < nodeLen*nodesOf(n) {
		return a, false
	}
	rest := f.items
	for range n {
		if len(rest) < 8 {
			return a, false
		}
		length := int(rest[0])<<24 | int(rest[1])<<16 | int(rest[2])<<8 | int(rest[3])
		if length > maxItem || length > len(rest)-8 {
			return a, false
		}
		a.items = append(a.items, rest[4:4+length])
		rest = rest[length+8:]
	}
	for p := range nodesOf(n) {
		a.nodes = append(a.nodes, f.nodes[nodeLen*p:nodeLen*p+k])
	}
	want := a.laid(k)
	return a, strings.HasPrefix(f.items, want.items) && strings.HasPrefix(f.nodes, want.nodes) && f.marks[:n*markLen] == want.marks
}

// model is a store by the chapter's words: it has its archive, and looks at no byte of the disk once it is opened.
type model struct {
	d    *disk.Disk
	k    int
	has  archive
	lame bool
}

func openModel(d *disk.Disk, k int) (*model, api.Errno) {
	if k < 1 || k > 32 {
		return nil, 70
	}
	if d == nil || d.Down() {
		return nil, 170
	}
	now := filesOf(d.Files())
	has, ok := now.read(k)
	if !ok {
		return nil, 190
	}
	want := has.laid(k)
	var acts []func() api.Errno
	if len(now.items) > len(want.items) {
		acts = append(acts, func() api.Errno { return d.Cut("items", len(want.items)) })
	}
	if len(now.nodes) > len(want.nodes) {
		acts = append(acts, func() api.Errno { return d.Cut("nodes", len(want.nodes)) })
	}
	if len(now.marks) > len(want.marks) {
		acts = append(acts, func() api.Errno { return d.Cut("marks", len(want.marks)) })
	}
	for _, name := range []string{"items", "nodes", "marks"} {
		acts = append(acts, func() api.Errno { return d.Sync(name) })
	}
	if e := firstError(acts); e != 0 {
		return nil, e
	}
	return &model{d: d, k: k, has: has}, 0
}

// firstError goes through acts till one answers an error.
func firstError(acts []func() api.Errno) api.Errno {
	for _, act := range acts {
		if e := act(); e != 0 {
			return e
		}
	}
	return 0
}

func (m *model) add(item string, nodes []string) api.Errno {
	n, old := len(m.has.items), m.has.laid(m.k)
	if m.lame {
		return 191
	}
	if len(item) > maxItem {
		return 100
	}
	if n == maxItems {
		return 101
	}
	if len(nodes) != newNodes(n) || slices.ContainsFunc(nodes, func(d string) bool { return len(d) != m.k }) {
		return 192
	}
	if len(old.items)+len(item)+8 > longest {
		return 172
	}
	will := m.has.with(item, nodes)
	now := will.laid(m.k)
	e := firstError([]func() api.Errno{
		func() api.Errno { return m.d.Write("items", len(old.items), now.items[len(old.items):]) },
		func() api.Errno { return m.d.Write("nodes", len(old.nodes), now.nodes[len(old.nodes):]) },
		func() api.Errno { return m.d.Sync("items") },
		func() api.Errno { return m.d.Sync("nodes") },
		func() api.Errno { return m.d.Write("marks", len(old.marks), now.marks[len(old.marks):]) },
		func() api.Errno { return m.d.Sync("marks") },
	})
	if e != 0 {
		m.lame = true
		return e
	}
	m.has = will
	return 0
}

func (m *model) item(i uint64) (string, api.Errno) {
	return m.told(m.has.items, i)
}

func (m *model) node(p uint64) (string, api.Errno) {
	return m.told(m.has.nodes, p)
}

func (m *model) told(list []string, at uint64) (string, api.Errno) {
	if at >= uint64(len(list)) {
		return "", 31
	}
	if m.d.Down() {
		return "", 170
	}
	return list[at], 0
}

// shown is a list of files as text; each list has a text of its own.
func shown(list []api.File) string {
	var s strings.Builder
	for _, f := range list {
		fmt.Fprintf(&s, "%q=%q ", f.Name, f.Data)
	}
	return s.String()
}

// short is a text as a fault tells it.
func short(s string) string {
	if len(s) <= 600 {
		return s
	}
	return fmt.Sprintf("%s.. (%d)", s[:600], len(s))
}
