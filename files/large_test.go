package files_test

import (
	"strings"
	"testing"

	"massif/api"
	"massif/disk"
)

// fullArchive has n items of one byte or none.
func fullArchive(k, n int) archive {
	a := archive{}
	for i := range n {
		a.items = append(a.items, strings.Repeat("i", i%2))
	}
	for p := range nodesOf(n) {
		a.nodes = append(a.nodes, (four(uint32(p)) + zeros(32))[4-min(k, 4):][:k])
	}
	return a
}

// TestMostItems adds the last item that may be, and one more.
func TestMostItems(t *testing.T) {
	const k = 3
	a := fullArchive(k, maxItems)
	d := diskOf(t, great, a.first(maxItems-1).laid(k).list())
	s := must(t, "P19.1: MaxItems", d, k)
	is(t, "P19.1: Size", s.Size(), maxItems-1)
	last := a.nodes[nodesOf(maxItems-1):]
	is(t, "P19.1: how many nodes the last item has", len(last), 17)
	is(t, "P19.1: Add of the last item, without a node", s.Add(a.items[maxItems-1], last[1:]), 192)
	is(t, "P19.1: Add of the last item", s.Add(a.items[maxItems-1], last), api.OK)
	acts := d.Acts()
	is(t, "P19.1: Add of one more", s.Add("", []string{"abc"}), 101)
	is(t, "R1: Add of one more, with too few nodes", s.Add("", nil), 101)
	is(t, "R1: Add of one more, too long", s.Add(strings.Repeat("i", maxItem+1), nil), 100)
	is(t, "P19.1: Acts of refused Adds", d.Acts(), acts)
	is(t, "P19.1: Lame", s.Lame(), false)
	is(t, "P19.1: Size", s.Size(), maxItems)
	tells(t, "P19.1: MaxItems", d, a.laid(k))
	if got := contents(t, "P19.1: MaxItems", s); !got.equal(a) {
		t.Errorf("P19.1: the store of MaxItems items has others")
	}
	itemIs(t, "P19.1: MaxItems", s, maxItems, "", 31)
	nodeIs(t, "P19.1: MaxItems", s, 2*maxItems-1, "", 31)
}

// TestMarksBehindMaxItems opens files with MaxItems markers, and with more.
func TestMarksBehindMaxItems(t *testing.T) {
	const k = 3
	a := fullArchive(k, maxItems+1)
	whole, more := a.first(maxItems).laid(k), a.laid(k)
	for _, x := range []struct {
		what string
		f    three
		acts int
	}{
		{"MaxItems markers", whole, 3},
		{"a sector of zeros behind", three{whole.items, whole.nodes, whole.marks + zeros(64)}, 4},
		{"a sector of zeros and some behind", three{whole.items, whole.nodes, whole.marks + zeros(127)}, 4},
		{"more items and nodes behind", three{more.items, more.nodes, whole.marks}, 5},
		{"all and a sector of zeros behind", three{more.items, more.nodes, whole.marks + zeros(64)}, 6},
	} {
		d := diskOf(t, great, x.f.list())
		s := must(t, "P19.1: "+x.what, d, k)
		is(t, "P19.1: "+x.what+": Size", s.Size(), maxItems)
		is(t, "P19.1: "+x.what+": Acts", d.Acts(), x.acts)
		tells(t, "P19.1: "+x.what, d, whole)
	}
	for what, f := range map[string]three{
		"two sectors of zeros behind":     {whole.items, whole.nodes, whole.marks + zeros(128)},
		"one marker more":                 more,
		"one marker more, zeros behind":   {more.items, more.nodes, more.marks + zeros(64)},
		"no marker behind":                {whole.items, whole.nodes, whole.marks + strings.Repeat("z", 64)},
		"the last marker again":           {whole.items, whole.nodes, whole.marks + whole.marks[len(whole.marks)-64:]},
		"zeros among the markers":         {whole.items, whole.nodes, whole.marks[:64] + zeros(64) + whole.marks[128:]},
		"zeros in the first one's place":  {whole.items, whole.nodes, zeros(64) + whole.marks[64:]},
		"the first marker is not there":   {whole.items, whole.nodes, whole.marks[64:]},
		"two markers in each one's place": {whole.items, whole.nodes, whole.marks[64:128] + whole.marks[:64] + whole.marks[128:]},
	} {
		refused(t, "P19.1: "+what, diskOf(t, great, f.list()), k, 190)
	}
}

// TestLongestItemsFile fills the items' file up to MaxFile.
func TestLongestItemsFile(t *testing.T) {
	const k = 1
	d := disk.New(great)
	s := must(t, "P19.1: MaxFile", d, k)
	item := strings.Repeat("0123456789abcdef", maxItem/16)
	for n := range 255 {
		is(t, "P19.1: Add of MaxItem bytes", s.Add(item, (new(chance)).digests(k, newNodes(n))), api.OK)
	}
	left := longest - d.Size("items") - 8
	is(t, "P19.1: how long an item has room", left, maxItem-2048)
	acts, nodes := d.Acts(), (new(chance)).digests(k, newNodes(255))
	is(t, "P19.1: Add of one byte too many", s.Add(item[:left+1], nodes), 172)
	is(t, "P19.1: Add of MaxItem bytes", s.Add(item, nodes), 172)
	is(t, "R1: Add of too few nodes and too many bytes", s.Add(item, nodes[1:]), 192)
	is(t, "P19.1: Acts", d.Acts(), acts)
	is(t, "P19.1: Lame", s.Lame(), false)
	is(t, "P19.1: Add of what there is room for", s.Add(item[:left], nodes), api.OK)
	is(t, "P19.1: the items' file", d.Size("items"), longest)
	acts, nodes = d.Acts(), (new(chance)).digests(k, newNodes(256))
	is(t, "P19.1: Add of no byte", s.Add("", nodes), 172)
	is(t, "P19.1: Acts", d.Acts(), acts)
	is(t, "P19.1: Lame", s.Lame(), false)
	is(t, "P19.1: Size", s.Size(), 256)
	itemIs(t, "P19.1: MaxFile", s, 255, item[:left], 0)
	again := must(t, "P19.2: MaxFile", d, k)
	is(t, "P19.2: Size", again.Size(), 256)
	itemIs(t, "P19.2: MaxFile", again, 0, item, 0)
	is(t, "P19.2: Add of no byte", again.Add("", nodes), 172)
}
