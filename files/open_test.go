package files_test

import (
	"math"
	"slices"
	"strings"
	"testing"

	"massif/api"
	"massif/disk"
	"massif/files"
)

// someArchives are of no item, of one, of two and of more, at one strength.
func someArchives(k int) []archive {
	c := chance(191)
	var list []archive
	for _, n := range []int{0, 1, 2, 3, 4, 7, 8} {
		list = append(list, archiveOf(&c, k, n))
	}
	return list
}

func TestStrengths(t *testing.T) {
	down := disk.New(great)
	down.Lay(api.Fate{At: 1, Kind: 4})
	down.Sync("items")
	broken := diskOf(t, great, three{marks: strings.Repeat("z", 64)}.list())
	for _, k := range []int{-1, 0, 33, -32, 34, 64, 1<<32 + 1, math.MinInt, math.MaxInt} {
		refused(t, "R1: a strength that is none", disk.New(great), k, 70)
		refused(t, "R1: a strength that is none, of a broken disk", broken, k, 70)
		refused(t, "R1: a strength that is none, without power", down, k, 70)
		if s, e := files.Open(nil, k); s != nil || e != 70 {
			t.Errorf("R1: Open(nil, %d): %v, %d, want 70", k, s != nil, e)
		}
	}
	for _, k := range []int{1, 2, 31, 32} {
		must(t, "P19.1", disk.New(great), k)
		refused(t, "P19.1: a broken disk", broken, k, 190)
		refused(t, "P19.1: no power", down, k, 170)
		if s, e := files.Open(nil, k); s != nil || e != 170 {
			t.Errorf("P19.1: Open(nil, %d): %v, %d, want 170", k, s != nil, e)
		}
	}
}

// TestDownAheadOfBroken opens a disk that is broken and whose power is out.
func TestDownAheadOfBroken(t *testing.T) {
	d := diskOf(t, great, three{marks: strings.Repeat("z", 64)}.list())
	d.Lay(api.Fate{At: 1, Kind: 5, Keep: []bool{true}})
	d.Sync("marks")
	refused(t, "R1: a broken disk without power", d, 2, 170)
	refused(t, "R1: and no strength", d, 0, 70)
}

// TestEveryStrengthOfEveryMarker has files of one strength opened at every other one.
func TestEveryStrengthOfEveryMarker(t *testing.T) {
	c := chance(192)
	for k := 1; k <= 32; k++ {
		a := archiveOf(&c, k, 3)
		for other := 1; other <= 32; other++ {
			p := pairOf(t, great, a.laid(k).list())
			want := api.ErrBroken
			if other == k {
				want = api.OK
			}
			is(t, "P19.1: Open", p.open(t, "P19.1", other), want)
		}
	}
}

// by is files by hand, and what Open makes of them: how many items there are, how many acts.
type by struct {
	what string
	f    three
	e    api.Errno
	size int
	acts int
}

// check opens the files by hand; with OK they are those of the archive's first items.
func (x by) check(t *testing.T, k int, a archive) {
	t.Helper()
	p := pairOf(t, great, x.f.list())
	is(t, "P19.1: "+x.what+": Open", p.open(t, "P19.1: "+x.what, k), x.e)
	is(t, "P19.1: "+x.what+": Acts", p.d.Acts(), x.acts)
	if x.e != api.OK {
		tells(t, "P19.1: "+x.what+": nothing is cut", p.d, x.f)
		return
	}
	is(t, "P19.1: "+x.what+": Size", p.s.Size(), uint64(x.size))
	want := a.first(x.size)
	tells(t, "P19.1: "+x.what, p.d, want.laid(k))
	if got := contents(t, "P19.1: "+x.what, p.s); !got.equal(want) {
		t.Errorf("P19.1: %s: the store has %v, want %v", x.what, got, want)
	}
}

// TestMarksAlone opens marks of all lengths around one and two markers, without any other file.
func TestMarksAlone(t *testing.T) {
	for _, n := range []int{0, 1, 62, 63, 64, 65, 127, 128, 129, 191, 192, 1000} {
		for _, b := range []string{"\x00", "z", "m", "\xff"} {
			x := by{what: "marks alone", f: three{marks: strings.Repeat(b, n)}, acts: 3}
			if n > 0 {
				x.acts = 4
			}
			if n >= 128 || n >= 64 && b != "\x00" {
				x.e, x.acts = 190, 0
			}
			x.check(t, 2, archive{})
		}
	}
}

// TestTails lays bytes behind the ends of each file, of each two and of all three.
func TestTails(t *testing.T) {
	const k = 3
	tails := []string{"", "x", "\x00", zeros(7), zeros(39), zeros(40), strings.Repeat("y", 64), zeros(100), payload("more"), node(9, "abc"), strings.Repeat("z", 5000)}
	marks := []struct {
		tail string
		ok   bool
	}{{"", true}, {"\x00", true}, {strings.Repeat("m", 63), true}, {zeros(64), true}, {zeros(65), true}, {zeros(64) + strings.Repeat("m", 63), true}, {zeros(128), false}, {zeros(129), false}, {strings.Repeat("m", 64), false}}
	for _, a := range someArchives(k) {
		for _, items := range tails {
			for _, nodes := range tails {
				for _, m := range marks {
					f := a.laid(k)
					f = three{f.items + items, f.nodes + nodes, f.marks + m.tail}
					x := by{what: "bytes behind the ends", f: f, size: len(a.items), acts: 3}
					for _, tail := range []string{items, nodes, m.tail} {
						if tail != "" {
							x.acts++
						}
					}
					if !m.ok {
						x.e, x.acts = 190, 0
					}
					x.check(t, k, a)
				}
			}
		}
	}
}

// TestShorter cuts files below what the last marker says.
func TestShorter(t *testing.T) {
	const k = 3
	for _, a := range someArchives(k)[1:] {
		f := a.laid(k)
		for n := range len(f.items) {
			by{what: "items shorter", f: three{f.items[:n], f.nodes, f.marks}, e: 190}.check(t, k, a)
		}
		for n := range len(f.nodes) {
			by{what: "nodes shorter", f: three{f.items, f.nodes[:n], f.marks}, e: 190}.check(t, k, a)
		}
		for n := range len(f.marks) {
			size := n / markLen
			x := by{what: "marks shorter", f: three{f.items, f.nodes, f.marks[:n]}, size: size, acts: 5}
			if n%markLen != 0 {
				x.acts++
			}
			x.check(t, k, a)
		}
		for _, n := range []int{0, 1, 39} { // nothing of the one file or of the other
			by{what: "no items", f: three{"", f.nodes + zeros(n), f.marks}, e: 190}.check(t, k, a)
			by{what: "no nodes", f: three{f.items + zeros(n), "", f.marks}, e: 190}.check(t, k, a)
		}
	}
}

// changes are other markers, each with one field that is another one.
func changes() map[string]func(m marker) marker {
	return map[string]func(m marker) marker{
		"Size one more":      func(m marker) marker { m.size++; return m },
		"Size one less":      func(m marker) marker { m.size--; return m },
		"Size of 2^32 more":  func(m marker) marker { m.size += 1 << 32; return m },
		"Size the greatest":  func(m marker) marker { m.size = greatest; return m },
		"K one more":         func(m marker) marker { m.k++; return m },
		"K one less":         func(m marker) marker { m.k--; return m },
		"K 32":               func(m marker) marker { m.k = 32; return m },
		"Items one more":     func(m marker) marker { m.items++; return m },
		"Items one less":     func(m marker) marker { m.items--; return m },
		"Items 0":            func(m marker) marker { m.items = 0; return m },
		"Items of 2^32 more": func(m marker) marker { m.items += 1 << 32; return m },
		"Items of 2^63":      func(m marker) marker { m.items += 1 << 63; return m },
		"Items the greatest": func(m marker) marker { m.items = greatest; return m },
		"Nodes one more":     func(m marker) marker { m.nodes++; return m },
		"Nodes one less":     func(m marker) marker { m.nodes--; return m },
		"Nodes 40 more":      func(m marker) marker { m.nodes += 40; return m },
		"Nodes 40 less":      func(m marker) marker { m.nodes -= 40; return m },
		"Nodes of 2^32 more": func(m marker) marker { m.nodes += 1 << 32; return m },
		"Nodes the greatest": func(m marker) marker { m.nodes = greatest; return m },
		"Chain one more":     func(m marker) marker { m.chain++; return m },
		"Chain turned":       func(m marker) marker { m.chain ^= 1 << 31; return m },
		"Chain 0":            func(m marker) marker { m.chain = 0; return m },
	}
}

// TestOtherMarkers writes markers whose sums are right and of which one field is another one; the chains behind go on from what is written.
func TestOtherMarkers(t *testing.T) {
	const k = 3
	for _, a := range someArchives(k)[1:] {
		payloads, nodes := a.rows()
		for at := range payloads {
			for what, change := range changes() {
				f := lay(k, payloads, nodes, func(i int, m marker) marker {
					if i == at {
						return change(m)
					}
					return m
				})
				for _, tail := range []string{"", zeros(1000)} { // so that the ends are there, whatever a marker says
					x := by{what: what, f: three{f.items + tail, f.nodes + tail, f.marks}, e: 190}
					x.check(t, k, a)
				}
			}
		}
	}
}

// TestItemsThatDoNotRise has a marker's Items be that of the one ahead, or below it, as if its item had no record.
func TestItemsThatDoNotRise(t *testing.T) {
	const k = 3
	for _, a := range someArchives(k)[1:] {
		payloads, nodes := a.rows()
		for at := range payloads {
			bare := slices.Clone(payloads)
			bare[at] = ""
			for less := range uint64(9) {
				f := lay(k, bare, nodes, func(i int, m marker) marker {
					if i == at {
						m.items -= min(less, m.items)
					}
					return m
				})
				by{what: "Items that do not rise", f: f, e: 190}.check(t, k, a)
			}
		}
	}
}

// TestRecordsBetweenTheEnds lays other bytes than one record between two ends, with markers that are right but for that.
func TestRecordsBetweenTheEnds(t *testing.T) {
	const k = 3
	same := func(i int, m marker) marker { return m }
	for _, a := range someArchives(k)[1:] {
		payloads, nodes := a.rows()
		for at, own := range payloads {
			for what, other := range map[string]string{
				"a byte behind the record":      own + "x",
				"a zero behind the record":      own + "\x00",
				"two records":                   own + payload("b"),
				"a record without its end":      own[:len(own)-1],
				"three bytes":                   own[:3],
				"a byte ahead of the record":    "\x00" + own,
				"another sum":                   own[:len(own)-1] + string([]byte{own[len(own)-1] ^ 1}),
				"a length above the bytes":      summed(four(uint32(len(own))) + own[4:len(own)-4]),
				"a length above MaxItem":        summed("\x00\x10\x00\x01" + own[4:len(own)-4]),
				"the greatest length":           summed("\xff\xff\xff\xff" + own[4:len(own)-4]),
				"a length of 2^31":              summed("\x80\x00\x00\x00" + own[4:len(own)-4]),
				"no record, but as long as one": zeros(len(own)),
			} {
				rows := slices.Clone(payloads)
				rows[at] = other
				by{what: what, f: lay(k, rows, nodes, same), e: 190}.check(t, k, a)
			}
			if at+1 < len(payloads) { // the ends are elsewhere, and all bytes are the same
				rows := slices.Clone(payloads)
				rows[at], rows[at+1] = own+rows[at+1][:1], rows[at+1][1:]
				by{what: "an end behind a record's", f: lay(k, rows, nodes, same), e: 190}.check(t, k, a)
				rows[at], rows[at+1] = own[:len(own)-1], own[len(own)-1:]+payloads[at+1]
				by{what: "an end ahead of a record's", f: lay(k, rows, nodes, same), e: 190}.check(t, k, a)
			}
		}
	}
}

// TestItemAboveMaxItem lays the record of an item of one byte too many, with a sum that is right.
func TestItemAboveMaxItem(t *testing.T) {
	same := func(i int, m marker) marker { return m }
	nodes := [][]string{{node(0, "a")}}
	for _, n := range []int{maxItem, maxItem + 1, maxItem + 2} {
		a := archive{[]string{strings.Repeat("i", n)}, []string{"a"}}
		x := by{what: "an item of MaxItem or more", f: lay(1, []string{payload(a.items[0])}, nodes, same), size: 1, acts: 3}
		if n > maxItem {
			x.e, x.acts = 190, 0
		}
		x.check(t, 1, a)
	}
}

// otherNode is a node's record of the document, of any 32 bytes and any place.
func otherNode(text string, p uint32) string {
	return summed(text + four(p))
}

// TestOtherNodes lays nodes' records that are no such ones, with markers that are right but for that.
func TestOtherNodes(t *testing.T) {
	const k = 3
	same := func(i int, m marker) marker { return m }
	for _, a := range someArchives(k)[1:] {
		payloads, nodes := a.rows()
		for i := range nodes {
			for j, own := range nodes[i] {
				p := uint32(nodesOf(i) + j)
				bad := map[string]string{
					"the place behind":     otherNode(own[:32], p+1),
					"the place ahead":      otherNode(own[:32], p-1),
					"a place far away":     otherNode(own[:32], p+1<<31),
					"a sum that is wrong":  own[:39] + string([]byte{own[39] ^ 1}),
					"bytes 0":              zeros(40),
					"bytes of another one": own[1:] + own[:1],
				}
				for at := k; at < 32; at++ {
					bad["a byte behind the digest"] = otherNode(own[:at]+"\x01"+zeros(31-at), p)
					rows := slices.Clone(nodes)
					rows[i] = slices.Clone(nodes[i])
					for what, row := range bad {
						rows[i][j] = row
						by{what: what, f: lay(k, payloads, rows, same), e: 190}.check(t, k, a)
					}
				}
			}
		}
	}
}

// TestFilesByChance changes an archive's files in any way, and opens them.
func TestFilesByChance(t *testing.T) {
	c := chance(193)
	counts := map[api.Errno]int{}
	for range 20000 {
		k := 1 + c.below(32)
		f := archiveOf(&c, k, c.below(6)).laid(k)
		for range c.below(3) {
			row := pick(&c, &f.items, &f.nodes, &f.marks)
			*row = c.changed(*row)
		}
		p := pairOf(t, great, f.list())
		e := p.open(t, "P19.1: files by chance", k)
		counts[e]++
		if e != api.OK {
			is(t, "P19.1: Acts", p.d.Acts(), 0)
			continue
		}
		is(t, "P19.1: Add", p.add(t, "P19.1", c.item(), c.digests(k, newNodes(int(p.s.Size())))), api.OK)
		is(t, "P19.2: Open", p.open(t, "P19.2", k), api.OK)
	}
	if counts[api.OK] < 1000 || counts[api.ErrBroken] < 1000 {
		t.Errorf("too few of a kind: %v", counts)
	}
}

// changed is a text with something done to it.
func (c *chance) changed(s string) string {
	at := c.below(len(s) + 1)
	switch c.below(8) {
	case 0:
		return s[:at]
	case 1:
		return s + c.text(c.below(200))
	case 2:
		return s + zeros(pick(c, 1, 40, 63, 64, 65, 128))
	case 3:
		return s[:at] + c.text(1) + s[at:]
	case 4:
		return s[:at] + zeros(min(64, len(s)-at)) + s[at+min(64, len(s)-at):]
	case 5:
		return s[:len(s)/64*64]
	case 6:
		return s[:max(0, len(s)-64)] + zeros(min(64, len(s)))
	}
	if at == len(s) {
		return s
	}
	return s[:at] + c.text(1) + s[at+1:]
}
