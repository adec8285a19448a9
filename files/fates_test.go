package files_test

import (
	"slices"
	"testing"

	"massif/api"
	"massif/disk"
	"massif/files"
)

// fateErrors are what an act answers that a fate of each kind meets.
func fateErrors() []api.Errno {
	return []api.Errno{0, 171, 172, 171, 170, 170}
}

// adding is an Add that a fate meets: to a store of an archive, of one item more.
type adding struct {
	k     int
	has   archive
	item  string
	nodes []string
}

// addings are small ones: with no item and with some, of an item that fills no sector, of one that fills a part of the next, and of more.
func addings() []adding {
	c := chance(211)
	var list []adding
	for _, n := range []int{0, 1, 2, 3} {
		for _, length := range []int{0, 1, 50, 90} {
			k := pick(&c, 1, 2, 20, 32)
			list = append(list, adding{k, archiveOf(&c, k, n), c.text(length), c.digests(k, newNodes(n))})
		}
	}
	return list
}

// will is the archive with the item.
func (x adding) will() archive {
	return x.has.with(x.item, x.nodes)
}

// begin is a store of the archive, on a disk on which a fate lies.
func (x adding) begin(t *testing.T, f api.Fate) (*disk.Disk, *files.Store) {
	t.Helper()
	d := diskOf(t, great, x.has.laid(x.k).list())
	s := must(t, "P19.2", d, x.k)
	d.Lay(f)
	return d, s
}

// met is the disk behind the Add that the fate meets.
func (x adding) met(t *testing.T, f api.Fate) *disk.Disk {
	t.Helper()
	d, s := x.begin(t, f)
	acts := d.Acts()
	is(t, "P19.1: Add that a fate meets", s.Add(x.item, x.nodes), fateErrors()[f.Kind])
	is(t, "P19.1: Acts of the Add", d.Acts()-acts, f.At)
	is(t, "R9: Lame", s.Lame(), true)
	is(t, "R9: Size", s.Size(), uint64(len(x.has.items)))
	is(t, "R9: a second Add", s.Add(x.item, x.nodes), 191)
	is(t, "R9: Acts of a second Add", d.Acts()-acts, f.At)
	if !d.Down() {
		if got := contents(t, "R9", s); !got.equal(x.has) {
			t.Fatalf("R9: a lame store has %v, want %v", got, x.has)
		}
		return d
	}
	for i := range x.has.items {
		itemIs(t, "P19.1: no power", s, uint64(i), "", 170)
	}
	for p := range x.has.nodes {
		nodeIs(t, "P19.1: no power", s, uint64(p), "", 170)
	}
	itemIs(t, "P19.1: no power", s, s.Size(), "", 31)
	nodeIs(t, "P19.1: no power", s, uint64(len(x.has.nodes)), "", 31)
	return d
}

// oneOfTwo holds what an opened store has against the archive, and the archive with the item under way.
func oneOfTwo(t *testing.T, promise string, got, has, will archive) {
	t.Helper()
	if !got.equal(has) && !got.equal(will) {
		t.Fatalf("%s: the store opened anew has %v, want %v or that with one item more", promise, got, has)
	}
}

// TestCrashInAdd has the power go at each act of Add, ahead of it and behind it, with every choice of what stays.
func TestCrashInAdd(t *testing.T) {
	for _, x := range addings() {
		for at := 1; at <= 6; at++ {
			for _, kinds := range [][2]int{{1, 4}, {3, 5}} { // the first leaves as much loose as the second
				loose := choicesOf(x.met(t, api.Fate{At: at, Kind: kinds[0]}))
				for _, keep := range everyKeep(loose) {
					d := x.met(t, api.Fate{At: at, Kind: kinds[1], Keep: keep})
					got := reopened(t, "P19.3", x.k, d.Files())
					oneOfTwo(t, "P19.3", got, x.has, x.will())
					f := filesOf(d.Files())
					more := len(f.marks) == len(x.will().laid(x.k).marks) && f.marks[len(f.marks)-markLen:] != zeros(markLen)
					is(t, "P19.3: whether the item is there whose marker stayed", got.equal(x.will()), more)
					sure := at == 6 && kinds[1] == 5
					never := at < 5 || at == 5 && kinds[1] == 4
					is(t, "P19.3: whether an item that was synced is lost, or one is there without a marker", sure && !more || never && more, false)
					x.secondLife(t, d.Files(), got)
				}
			}
		}
	}
}

// secondLife opens what stayed, and adds the item again, or another one.
func (x adding) secondLife(t *testing.T, left []api.File, has archive) {
	t.Helper()
	d := diskOf(t, great, left)
	s := must(t, "P19.3", d, x.k)
	nodes := (new(chance)).digests(x.k, newNodes(len(has.items)))
	is(t, "P19.3: Add in a second life", s.Add("next", nodes), api.OK)
	want := has.with("next", nodes)
	tells(t, "P19.3: a second life", d, want.laid(x.k))
	for _, keep := range keeps() {
		if got := reopened(t, "P19.3: a second life", x.k, d.After(keep)); !got.equal(want) {
			t.Fatalf("P19.3: a second life: the store opened anew has %v, want %v", got, want)
		}
	}
}

// TestFaultInAdd has each act of Add fail, find no room or be in doubt: what the same disk has, and what is there if the power goes then, with every choice of what stays.
func TestFaultInAdd(t *testing.T) {
	for _, x := range addings() {
		for at := 1; at <= 6; at++ {
			for kind := 1; kind <= 3; kind++ {
				d := x.met(t, api.Fate{At: at, Kind: kind})
				for _, keep := range everyKeep(choicesOf(d)) {
					oneOfTwo(t, "P19.4: without power", reopened(t, "P19.4: without power", x.k, d.After(keep)), x.has, x.will())
				}
				want := x.has
				if at == 6 || at == 5 && kind == 3 { // the marker is there
					want = x.will()
				}
				if got := opened(t, "P19.4", x.k, d); !got.equal(want) {
					t.Fatalf("P19.4: kind %d at act %d: the store opened anew has %v, want %v", kind, at, got, want)
				}
				tells(t, "P19.4: the files behind Open", d, want.laid(x.k))
				x.secondLife(t, d.Files(), want)
			}
		}
	}
}

// TestNoFateInAdd has fates that wait for an act behind the Add's own.
func TestNoFateInAdd(t *testing.T) {
	for _, x := range addings() {
		for kind := 1; kind <= 5; kind++ {
			d, s := x.begin(t, api.Fate{At: 7, Kind: kind})
			is(t, "P19.1: Add", s.Add(x.item, x.nodes), api.OK)
			is(t, "P19.1: Lame", s.Lame(), false)
			tells(t, "P19.1: Add", d, x.will().laid(x.k))
			_, e := files.Open(d, x.k)
			is(t, "P19.1: Open that the fate meets", e, fateErrors()[kind])
		}
	}
}

// start is how a disk comes to be opened: it is made anew at each call.
type start struct {
	x    adding
	disk func() *disk.Disk
}

// starts are disks behind an Add that a fate met: the same disk, with loose bytes, and new ones of what stayed, each once.
func starts(t *testing.T) []start {
	t.Helper()
	var list []start
	all := addings()
	for _, x := range []adding{all[2], all[5], all[7], all[15]} {
		var seen []string
		for at := 1; at <= 6; at++ {
			for kind := 1; kind <= 3; kind++ {
				made := func() *disk.Disk { return x.met(t, api.Fate{At: at, Kind: kind}) }
				list = append(list, start{x, made})
				d := made()
				for _, keep := range everyKeep(choicesOf(d)) {
					left := d.After(keep)
					if text := shown(left); !slices.Contains(seen, text) {
						seen = append(seen, text)
						list = append(list, start{x, func() *disk.Disk { return diskOf(t, great, left) }})
					}
				}
			}
		}
	}
	return list
}

// openedWith is the disk behind an Open that a fate meets, and what it answered; false, if Open makes no such act.
func (b start) openedWith(t *testing.T, f api.Fate) (*disk.Disk, bool) {
	t.Helper()
	d := b.disk()
	acts := d.Acts()
	d.Lay(f)
	s, e := files.Open(d, b.x.k)
	if d.Acts()-acts < f.At {
		is(t, "P19.1: Open that no fate meets", e, api.OK)
		return nil, false
	}
	is(t, "P19.1: Open that a fate meets", e, fateErrors()[f.Kind])
	is(t, "R1: whether Open answers a store", s != nil, false)
	is(t, "P19.1: Acts of Open", d.Acts()-acts, f.At)
	return d, true
}

// TestFatesInOpen has each act of Open meet each fate, with every choice of what stays; then the disk is opened again.
func TestFatesInOpen(t *testing.T) {
	most := 0
	for _, b := range starts(t) {
		for at := 1; ; at++ {
			d, ok := b.openedWith(t, api.Fate{At: at, Kind: 1})
			if !ok {
				most = max(most, at-1)
				break
			}
			b.faultThenOpen(t, d)
			full, _ := b.openedWith(t, api.Fate{At: at, Kind: 2})
			b.faultThenOpen(t, full)
			doubt, _ := b.openedWith(t, api.Fate{At: at, Kind: 3})
			b.crashInOpen(t, api.Fate{At: at, Kind: 4}, choicesOf(b.again(t, at, 1)))
			b.crashInOpen(t, api.Fate{At: at, Kind: 5}, choicesOf(doubt))
			b.faultThenOpen(t, doubt)
		}
	}
	is(t, "the most acts of an Open", most, 6)
}

// again is the disk behind an Open whose act failed, which nobody has opened since.
func (b start) again(t *testing.T, at, kind int) *disk.Disk {
	t.Helper()
	d, _ := b.openedWith(t, api.Fate{At: at, Kind: kind})
	return d
}

// faultThenOpen opens the same disk again, and what would stay of it.
func (b start) faultThenOpen(t *testing.T, d *disk.Disk) {
	t.Helper()
	for _, keep := range everyKeep(choicesOf(d)) {
		oneOfTwo(t, "P19.4: Open, without power", reopened(t, "P19.4: Open", b.x.k, d.After(keep)), b.x.has, b.x.will())
	}
	has := opened(t, "P19.4: Open", b.x.k, d)
	oneOfTwo(t, "P19.4: Open", has, b.x.has, b.x.will())
	for _, keep := range keeps() { // what was told once
		if got := reopened(t, "P19.5", b.x.k, d.After(keep)); !got.equal(has) {
			t.Fatalf("P19.5: a later store has %v, the one ahead had %v", got, has)
		}
	}
}

// crashInOpen has the power go in Open, with every choice of what stays.
func (b start) crashInOpen(t *testing.T, f api.Fate, choices int) {
	t.Helper()
	for _, keep := range everyKeep(choices) {
		f.Keep = keep
		d, _ := b.openedWith(t, f)
		refused(t, "P19.1: Open without power", d, b.x.k, 170)
		oneOfTwo(t, "P19.3: Open", reopened(t, "P19.3: Open", b.x.k, d.Files()), b.x.has, b.x.will())
	}
}

// TestOpenTwice opens disks that were opened: of all starts, and of those with anything behind the ends.
func TestOpenTwice(t *testing.T) {
	twice := func(d *disk.Disk, k int) {
		must(t, "P19.6", d, k)
		was, loose := filesOf(d.Files()), shown(d.After([]bool{true, false}))
		for range 3 {
			acts := d.Acts()
			must(t, "P19.6", d, k)
			tells(t, "P19.6: Open of a disk that was opened", d, was)
			is(t, "P19.6: what would stay", shown(d.After([]bool{true, false})), loose)
			is(t, "P19.6: Acts", d.Acts()-acts, 3)
		}
	}
	for _, b := range starts(t) {
		twice(b.disk(), b.x.k)
	}
	for _, a := range someArchives(5) {
		for _, tail := range []string{"", "x", zeros(64), zeros(65)} {
			f := a.laid(5)
			twice(diskOf(t, great, three{f.items + tail, f.nodes + tail, f.marks + tail}.list()), 5)
		}
	}
}
