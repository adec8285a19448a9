package files_test

import (
	"fmt"
	"slices"
	"testing"

	"massif/api"
	"massif/disk"
	"massif/files"
)

// TestNamesOfTheFiles are those of the chapter.
func TestNamesOfTheFiles(t *testing.T) {
	is(t, "Items", files.Items, "items")
	is(t, "Nodes", files.Nodes, "nodes")
	is(t, "Marks", files.Marks, "marks")
}

// TestListOfNodesStays hands in lists with room behind them, in Adds that are taken, refused and met by fates.
func TestListOfNodesStays(t *testing.T) {
	c := chance(241)
	for n := range 16 {
		for kind := range 6 {
			for _, good := range []bool{true, false} {
				p := begun(t, 2, archiveOf(&c, 2, n))
				p.lay(api.Fate{At: 1 + c.below(6), Kind: kind, Keep: c.keep()})
				count := newNodes(n)
				if !good {
					count++
				}
				whole := c.digests(2, count+3)
				was := slices.Clone(whole)
				p.add(t, "P19.8", "item", whole[:count])
				if !slices.Equal(whole, was) {
					t.Fatalf("P19.8: the list or the room behind it is %q, was %q", whole, was)
				}
			}
		}
	}
}

// TestListOfNodesIsNotKept changes the one list between Adds, and takes it for all of them.
func TestListOfNodesIsNotKept(t *testing.T) {
	c := chance(242)
	p := begun(t, 3, archive{})
	list := make([]string, 0, 20)
	for n := range 33 {
		list = append(list[:0], c.digests(3, newNodes(n))...)
		is(t, "P19.8: Add", p.add(t, "P19.8", c.item(), list), api.OK)
		for i := range cap(list) { // it is the caller's again
			list[:cap(list)][i] = "changed"
		}
		p.alike(t, "P19.8: the list was changed")
	}
	is(t, "P19.8: Open", p.open(t, "P19.8", 3), api.OK)
}

// TestTwoStoresInTurns has stores over several disks, of several strengths, in turns.
func TestTwoStoresInTurns(t *testing.T) {
	c := chance(243)
	strengths := []int{2, 2, 32}
	var pairs []*pair
	for _, k := range strengths {
		pairs = append(pairs, begun(t, k, archive{}))
	}
	for range 400 {
		at := c.below(len(pairs))
		pairs[at].step(t, &c, great, strengths[at])
		for _, p := range pairs {
			p.alike(t, "R11: stores in turns")
		}
	}
}

// script makes calls by a rule, and tells all answers and the files.
func script(rule chance) string {
	c := &rule
	k := 1 + c.below(32)
	d := disk.New(great)
	text := ""
	for range 4 {
		d.Lay(api.Fate{At: 1 + c.below(40), Kind: c.below(4)})
		s, e := files.Open(d, k)
		text += fmt.Sprint("Open ", e)
		if s == nil {
			continue
		}
		for range 8 {
			e := s.Add(c.item(), c.digests(k, newNodes(int(s.Size()))))
			item, itemE := s.Item(uint64(c.below(9)))
			digest, nodeE := s.Node(uint64(c.below(17)))
			text += fmt.Sprintf(" %d %q %d %q %d %d %v %d", e, item, itemE, digest, nodeE, s.Size(), s.Lame(), d.Acts())
		}
	}
	return text + shown(d.Files()) + shown(d.After(nil))
}

func TestOneAnswer(t *testing.T) {
	for rule := range chance(200) {
		first := script(rule)
		script(rule + 1000)
		if again := script(rule); again != first {
			t.Fatalf("R11: another answer the second time: %s, then %s", short(first), short(again))
		}
	}
}
