package disk_test

import (
	"slices"
	"testing"

	"massif/api"
	"massif/disk"
)

// padded is a list with room behind it, in which something stands.
func padded[T any](list []T, behind T) []T {
	whole := append(slices.Clone(list), behind, behind, behind)
	return whole[:len(list)]
}

// stays tells whether a padded list and the room behind it are as they were.
func stays[T comparable](list, was []T, behind T) bool {
	whole := list[:len(list)+3]
	return slices.Equal(list, was) && whole[len(list)] == behind && whole[len(list)+1] == behind && whole[len(list)+2] == behind
}

// spoil changes a list and the room behind it.
func spoil[T any](list []T, bad T) {
	list = list[:cap(list)]
	for i := range list {
		list[i] = bad
	}
}

var strange = api.File{Name: "a", Data: "strange"}

func TestListHandedToOpen(t *testing.T) {
	for _, was := range [][]api.File{
		{{Name: "b", Data: "bytes"}, {Name: "a", Data: "more"}, {Name: "c"}},
		{{Name: "a", Data: "bytes"}, {Name: "a", Data: "more"}},
		{{Name: "a", Data: "too many bytes for the room of twenty"}},
	} {
		list := padded(was, strange)
		d, e := disk.Open(20, list)
		if !stays(list, was, strange) {
			t.Errorf("P17.6: Open changes the list that is handed in")
		}
		spoil(list, strange)
		if e == api.OK {
			tells(t, "P17.6: Files behind the list's change", d.Files(), "a", "more", "b", "bytes")
			tells(t, "P17.6: After behind the list's change", d.After(nil), "a", "more", "b", "bytes")
		}
	}
}

func TestKeepHandedToLay(t *testing.T) {
	for _, was := range [][]bool{{true}, {false}, {true, false}, {false, true, true}, {}} {
		for _, kind := range []int{4, 5, 0, 1} {
			p := loose(t, "a", "synced", "now")
			list := padded(was, true)
			p.d.Lay(api.Fate{At: 2, Kind: kind, Keep: list})
			p.m.lay(api.Fate{At: 2, Kind: kind, Keep: was})
			if !stays(list, was, true) {
				t.Errorf("P17.6: Lay changes the list that is handed in")
			}
			for i := range list {
				list[i] = !list[i]
			}
			is(t, "P17.4: the first act", p.sync(t, "b"), 0)
			changed := slices.Clone(list)
			p.sync(t, "b")
			p.check(t, "P17.6")
			if !stays(list, changed, true) {
				t.Errorf("P17.6: an act changes a list that was handed in")
			}
		}
	}
}

func TestKeepHandedToAfter(t *testing.T) {
	for _, was := range [][]bool{{true}, {false}, {true, false}, {false, true, true}, {}} {
		for _, behind := range []bool{true, false} { // the room behind is not chosen from
			p := loose(t, "a", "synced", "now")
			list := padded(was, behind)
			is(t, "P17.3: After", shown(p.d.After(list)), shown(p.m.after(was)))
			if !stays(list, was, behind) {
				t.Errorf("P17.6: After changes the list that is handed in")
			}
			spoil(list, !behind)
			p.check(t, "P17.6")
		}
	}
}

func TestAnsweredListsAreTheCallers(t *testing.T) {
	for _, down := range []bool{false, true} {
		p := halfSynced(t)
		if down {
			p.lay(api.Fate{At: 1, Kind: 4, Keep: []bool{true, false}})
			p.sync(t, "a")
		}
		files, again := p.d.Files(), p.d.Files()
		after, afterAgain := p.d.After([]bool{false, true}), p.d.After([]bool{false, true})
		wantFiles, wantAfter := shown(again), shown(afterAgain)
		spoil(files, strange)
		spoil(after, strange)
		is(t, "P17.6: a list of Files behind another's change", shown(again), wantFiles)
		is(t, "P17.6: a list of After behind another's change", shown(afterAgain), wantAfter)
		p.check(t, "P17.6")
		_ = append(again[:1], strange)
		p.check(t, "P17.6")
	}
}

// TestAnswersStay has what was told once told the same, whatever is done to the disk later.
func TestAnswersStay(t *testing.T) {
	c := chance(201)
	for range 50 {
		p := halfSynced(t)
		files, after := p.d.Files(), p.d.After([]bool{true, false})
		read, _ := p.d.Read("b", 10, 100)
		wantFiles, wantAfter, wantRead := shown(files), shown(after), string([]byte(read))
		for range 40 {
			p.call(t, "P17.1", c.call(p.m, []string{"a", "b"}))
		}
		p.write(t, "b", 0, "ZZZZ")
		is(t, "P17.6: a list of Files behind later acts", shown(files), wantFiles)
		is(t, "P17.6: a list of After behind later acts", shown(after), wantAfter)
		is(t, "P17.6: what was read behind later acts", read, wantRead)
	}
}

func TestLooksChangeNothing(t *testing.T) {
	c := chance(202)
	for range 150 {
		p, still := fresh(great), disk.New(great) // the second is looked at in the end alone
		for range 50 {
			x := c.call(p.m, names()[:5])
			if x.op == "Write" || x.op == "Cut" || x.op == "Sync" || x.op == "Lay" {
				x.on(still)
			}
			p.call(t, "P17.1", x)
			if c.below(10) > 0 {
				continue
			}
			var first []answer
			for _, look := range looks(names()[:5]) {
				first = append(first, look.on(p.d))
			}
			for i, look := range looks(names()[:5]) {
				is(t, "P17.5: asked twice: "+look.String(), look.on(p.d), first[i])
			}
		}
		for _, look := range looks(names()[:5]) {
			is(t, "P17.5: of a disk that was not looked at: "+look.String(), look.on(still), look.on(p.d))
		}
	}
}

// TestDisksShareNothing makes unlike calls on several disks in turns; two of them are opened with one list.
func TestDisksShareNothing(t *testing.T) {
	c := chance(203)
	for range 40 {
		list := []api.File{{Name: "a", Data: c.text(150)}, {Name: "b", Data: c.text(64)}}
		all := []pair{opened(t, great, list...), opened(t, great, list...), fresh(great), fresh(200)}
		for range 200 {
			p := pick(&c, all...)
			p.call(t, "R11", c.call(p.m, names()[:4]))
		}
		for _, p := range all {
			p.check(t, "R11")
		}
	}
}

// TestOneAnswer makes the same calls on disks whose files came in unlike orders.
func TestOneAnswer(t *testing.T) {
	for seed := range 30 {
		one, two := disk.New(great), disk.New(great)
		list := names()
		for _, name := range list {
			one.Write(name, 0, name+"bytes")
		}
		slices.Reverse(list)
		for _, name := range list {
			two.Write(name, 0, name+"bytes")
		}
		m := modelOf(great)
		c := chance(seed)
		for range 80 {
			x := c.call(m, list)
			x.onModel(m)
			is(t, "R11: "+x.String(), x.on(one), x.on(two))
		}
		for _, look := range looks(list) {
			is(t, "R11: "+look.String(), look.on(one), look.on(two))
		}
	}
}
