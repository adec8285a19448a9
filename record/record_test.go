package record_test

import (
	"slices"
	"strings"
	"testing"

	"massif/record"
)

func TestExampleOne(t *testing.T) {
	is(t, "example 1", record.Payload(""), "\x00\x00\x00\x00\x48\x67\x4b\xc7")
	if n := len(record.Payload("a")); n != 9 {
		t.Errorf("example 1: %d bytes", n)
	}
}

func TestExampleTwo(t *testing.T) {
	s := record.Payload("a")
	payloadIs(t, "example 2", s+"xyz", "a", 9, 0)
	payloadIs(t, "example 2", s[:8], "", 0, 180)
	for _, three := range []string{s[:3], "xyz", zeros(3)} {
		payloadIs(t, "example 2", three, "", 0, 180)
	}
}

func TestExampleThree(t *testing.T) {
	s := record.Node(5, "x")
	is(t, "example 3", s, summed("x"+zeros(31)+"\x00\x00\x00\x05"))
	nodeIs(t, "example 3", 1, 5, s, "x", 0)
	nodeIs(t, "example 3", 2, 5, s, "x\x00", 0)
	nodeIs(t, "example 3", 1, 6, s, "", 180)
	nodeIs(t, "example 3", 1, 1<<32+5, s, "x", 0)
	nodeIs(t, "example 3", 0, 5, s, "", 70)
	nodeIs(t, "example 3", 0, 6, "", "", 70)
}

func TestExampleFour(t *testing.T) {
	is(t, "example 4", record.Mark(record.Marker{}), "")
	s := record.Mark(record.Marker{K: 1})
	for _, bad := range []string{s[:63], s + "\x00", zeros(63), zeros(65)} {
		markIs(t, "example 4", bad, record.Marker{}, 180)
	}
}

// isChain holds Chain against the sum of all of it joined.
func isChain(t *testing.T, what string, before uint32, payload string, nodes []string) {
	t.Helper()
	want := stepped(four(before) + payload + strings.Join(nodes, ""))
	if got := record.Chain(before, payload, nodes); got != want {
		t.Errorf("%s: Chain(%08x, %s, %d nodes): %08x, want %08x", what, before, short(payload), len(nodes), got, want)
	}
}

func TestChainByHand(t *testing.T) {
	for _, x := range []struct {
		before  uint32
		payload string
		nodes   []string
		want    uint32
	}{
		{0, "", nil, 0x48674bc7},
		{0, "", []string{}, 0x48674bc7},
		{0, "", []string{"", ""}, 0x48674bc7},
		{0x01020304, "p", []string{"n", "", "mm"}, 0x05836abd},
		{0x01020304, "pnmm", nil, 0x05836abd},
		{1<<32 - 1, "", []string{"x"}, 0x04bef33d},
	} {
		if got := record.Chain(x.before, x.payload, x.nodes); got != x.want {
			t.Errorf("P18.1: Chain(%08x, %q, %q): %08x, want %08x", x.before, x.payload, x.nodes, got, x.want)
		}
	}
}

func TestChain(t *testing.T) {
	many := make([]string, 300)
	for i := range many {
		many[i] = record.Node(uint64(i), strings.Repeat("d", i%33))
	}
	for _, before := range []uint32{0, 1, 255, 256, 0x01020304, 1 << 31, 1<<32 - 2, 1<<32 - 1} {
		for _, payload := range []string{"", "\x00", "no record", record.Payload(""), record.Payload("a"), record.Payload(zeros(300))} {
			for _, nodes := range [][]string{
				nil, {}, {""}, {"", "", ""}, {"n"}, {"", "n", ""}, {"n", "m"}, {"m", "n"}, {"\x00"}, {zeros(40), zeros(40)},
				many[:1], many[:2], many[5:20], many, {many[7], "", "no record", many[8]},
			} {
				isChain(t, "P18.1", before, payload, nodes)
			}
		}
	}
	isChain(t, "P18.1", 7, record.Payload(zeros(maxItem)), many)
	isChain(t, "P18.1", 7, zeros(2*maxItem), []string{zeros(maxItem)})
}

func TestChainByChance(t *testing.T) {
	c := chance(187)
	for range 5000 {
		nodes := make([]string, c.below(20))
		for i := range nodes {
			nodes[i] = c.text(pick(&c, 0, 1, 39, 40, 41))
		}
		isChain(t, "P18.1", uint32(c.number()), c.text(c.below(50)), nodes)
	}
}

// TestListHandedToChain looks at the list, at the room behind it, and at what comes of another list behind it.
func TestListHandedToChain(t *testing.T) {
	whole := []string{"n", "", "mm", "room", "", "more room"}
	was := slices.Clone(whole)
	for n := range len(whole) + 1 {
		for _, list := range [][]string{whole[:n], whole[:n:n]} {
			want := stepped("\x00\x00\x00\x07p" + strings.Join(was[:n], ""))
			first := record.Chain(7, "p", list)
			if !slices.Equal(whole, was) {
				t.Fatalf("P18.4: Chain of %d texts: the list or the room behind it is %q", n, whole)
			}
			for i := range whole { // what was handed in is the caller's again
				whole[i] = "changed"
			}
			isChain(t, "P18.4: another list", 7, "p", list)
			isChain(t, "P18.4: no list", 7, "p", nil)
			copy(whole, was)
			if again := record.Chain(7, "p", list); first != want || again != want {
				t.Errorf("P18.4: Chain of %d texts: %08x, then %08x, want %08x", n, first, again, want)
			}
		}
	}
}

// answers are those of all calls, of one item, one digest and one marker.
func answers(item, digest string, p uint64, m record.Marker) []any {
	payload, node, mark := record.Payload(item), record.Node(p, digest), record.Mark(m)
	list := []any{payload, node, mark, record.Chain(m.Chain, payload, []string{node, mark})}
	readItem, n, e := record.ReadPayload(payload + node)
	list = append(list, readItem, n, e)
	readDigest, e := record.ReadNode(m.K, p, node)
	list = append(list, readDigest, e)
	readMark, e := record.ReadMark(mark)
	return append(list, readMark, e)
}

func TestOneAnswer(t *testing.T) {
	c := chance(188)
	for range 500 {
		item, digest, p := c.text(c.below(100)), c.text(c.below(34)), c.number()
		m := record.Marker{K: c.below(34), Size: c.number(), Items: c.number(), Nodes: c.number(), Chain: uint32(c.number())}
		first := answers(item, digest, p, m)
		answers(c.text(c.below(100)), c.text(c.below(34)), c.number(), record.Marker{K: 1 + c.below(32), Size: c.number()})
		if again := answers(item, digest, p, m); !slices.Equal(first, again) {
			t.Fatalf("R11: another answer the second time: %v, then %v", first, again)
		}
	}
}
