package peaks_test

import (
	"crypto/sha256"
	"encoding/binary"
	"encoding/hex"
	"math"
	"math/bits"
	"slices"
	"strconv"
	"strings"
	"testing"

	"massif/api"
	"massif/hash"
	"massif/peaks"
	"massif/place"
	"massif/plain"
)

const most = 1 << 40 // MaxLeaves, by the document's number

// chance gives numbers by a rule, the same ones in every run.
type chance uint64

func (c *chance) next() uint64 {
	*c = *c*6364136223846793005 + 1442695040888963407
	return uint64(*c)>>32 ^ uint64(*c)<<32
}

// below is a number from 0 to n - 1.
func (c *chance) below(n int) int {
	return int(c.next() % (1 << 32) * uint64(n) >> 32)
}

// text has n bytes of any kind, those that are no UTF-8 among them.
func (c *chance) text(n int) string {
	row := make([]byte, n)
	for i := range row {
		row[i] = byte(c.next())
	}
	return string(row)
}

// texts are n texts of k bytes.
func (c *chance) texts(k, n int) []string {
	list := make([]string, n)
	for i := range list {
		list[i] = c.text(k)
	}
	return list
}

// some are n texts of k bytes, the same ones at every call.
func some(k, n int) []string {
	c := chance(90)
	return c.texts(k, n)
}

// strengths go from below the least to above the greatest one, and to the ends of int; some are strengths by their lowest bits alone.
func strengths() []int {
	list := []int{math.MinInt, math.MinInt + 1, math.MinInt + 32, math.MaxInt - 1, math.MaxInt, 1<<8 + 1, 1<<32 + 8, -1<<32 + 8}
	for k := -3; k <= 36; k++ {
		list = append(list, k)
	}
	return list
}

// digest is the first k bytes of the library's sum of a text.
func digest(k int, text string) string {
	sum := sha256.Sum256([]byte(text))
	return string(sum[:k])
}

func node(k int, a, b string) string { return digest(k, "\x01"+a+b) }

// bagged is by recursion, as the document says it.
func bagged(k int, row []string) string {
	switch len(row) {
	case 0:
		return ""
	case 1:
		return row[0]
	}
	return digest(k, "\x02"+row[0]+bagged(k, row[1:]))
}

func root(k int, n uint64, row []string) api.Root {
	head := binary.BigEndian.AppendUint64([]byte{3}, n)
	return api.Root{Size: n, Digest: digest(k, string(head)+bagged(k, row))}
}

// mountain is a tree by its height and its node.
type mountain struct {
	h int
	d string
}

// model is a range by the chapter's words: its mountains with their heights; the size is reckoned from these.
type model struct {
	k   int
	row []mountain
}

// modelFrom has a mountain for each one of n, the highest first.
func modelFrom(k int, n uint64, list []string) *model {
	m := &model{k: k}
	for h := 63; h >= 0; h-- {
		if n>>h&1 == 1 {
			m.row = append(m.row, mountain{h, list[len(m.row)]})
		}
	}
	return m
}

func (m *model) size() uint64 {
	n := uint64(0)
	for _, one := range m.row {
		n += 1 << one.h
	}
	return n
}

func (m *model) peaks() []string {
	list := []string{}
	for _, one := range m.row {
		list = append(list, one.d)
	}
	return list
}

func (m *model) root() api.Root { return root(m.k, m.size(), m.peaks()) }

// come lays a tree behind all; two of one height become one.
func (m *model) come(h int, d string) []string {
	m.row = append(m.row, mountain{h, d})
	made := []string{d}
	for n := len(m.row); n > 1 && m.row[n-2].h == m.row[n-1].h; n = len(m.row) {
		one := mountain{m.row[n-1].h + 1, node(m.k, m.row[n-2].d, m.row[n-1].d)}
		m.row = append(m.row[:n-2], one)
		made = append(made, one.d)
	}
	return made
}

func (m *model) add(leaf string) ([]string, api.Errno) {
	if len(leaf) != m.k {
		return nil, api.ErrPeaks
	}
	if m.size() == most {
		return nil, api.ErrSize
	}
	return m.come(0, leaf), api.OK
}

func (m *model) join(h int, d string) api.Errno {
	if len(d) != m.k {
		return api.ErrPeaks
	}
	if h < 0 || h > 40 || m.size()%(1<<h) != 0 {
		return api.ErrOrder
	}
	if m.size()+1<<h > most {
		return api.ErrSize
	}
	m.come(h, d)
	return api.OK
}

// fresh is a range of size 0.
func fresh(t *testing.T, k int) *peaks.Range {
	t.Helper()
	r, e := peaks.New(k)
	if r == nil || e != api.OK {
		t.Fatalf("P9.1: New(%d) = %v, %d", k, r, e)
	}
	return r
}

// from is a range of a size with these peaks.
func from(t *testing.T, k int, n uint64, list ...string) *peaks.Range {
	t.Helper()
	r, e := peaks.From(k, n, list)
	if r == nil || e != api.OK {
		t.Fatalf("P9.1: From(%d, %d, %x) = %v, %d", k, n, list, r, e)
	}
	return r
}

// added is what Add answers, if it takes the leaf.
func added(t *testing.T, r *peaks.Range, leaf string) []string {
	t.Helper()
	made, e := r.Add(leaf)
	if e != api.OK {
		t.Fatalf("P9.1: Add(%x) at the size %d = %d", leaf, r.Size(), e)
	}
	return made
}

func joined(t *testing.T, r *peaks.Range, h int, d string) {
	t.Helper()
	if e := r.Join(h, d); e != api.OK {
		t.Fatalf("P9.1: Join(%d, %x) at the size %d = %d", h, d, r.Size(), e)
	}
}

// has tells of a range whether all that it tells is that of a size and its peaks.
func has(r *peaks.Range, k int, n uint64, list []string) bool {
	return r.Size() == n && slices.Equal(r.Peaks(), list) && r.Root() == root(k, n, list)
}

func check(t *testing.T, promise string, r *peaks.Range, k int, n uint64, list ...string) {
	t.Helper()
	if !has(r, k, n, list) {
		t.Fatalf("%s: size %d, peaks %x, root %x; want %d, %x, %x", promise, r.Size(), r.Peaks(), r.Root(), n, list, root(k, n, list))
	}
}

// alike checks that two ranges tell the same.
func alike(t *testing.T, promise string, r, s *peaks.Range) {
	t.Helper()
	if r.Size() != s.Size() || !slices.Equal(r.Peaks(), s.Peaks()) || r.Root() != s.Root() {
		t.Fatalf("%s: size %d, peaks %x, root %x; the other: %d, %x, %x", promise, r.Size(), r.Peaks(), r.Root(), s.Size(), s.Peaks(), s.Root())
	}
}

// spoil writes over a list and all the room behind it, and grows it.
func spoil(list []string) {
	whole := list[:cap(list)]
	for i := range whole {
		whole[i] = "written over"
	}
	_ = append(list, "grown")
}

// counted are n items, each unlike all others.
func counted(n int) []string {
	list := make([]string, n)
	for i := range list {
		list[i] = "item " + strconv.Itoa(i)
	}
	return list
}

// leaves are the items' digests.
func leaves(k int, list []string) []string {
	row := make([]string, len(list))
	for i, item := range list {
		row[i] = digest(k, "\x00"+item)
	}
	return row
}

// tree is the node over leaves, by recursion.
func tree(k int, row []string) string {
	if len(row) == 1 {
		return row[0]
	}
	half := len(row) / 2
	return node(k, tree(k, row[:half]), tree(k, row[half:]))
}

func TestGrowingExample(t *testing.T) {
	r := fresh(t, 2)
	check(t, "P9.1", r, 2, 0)
	ab, cd := node(2, "aa", "bb"), node(2, "cc", "dd")
	all := node(2, ab, cd)
	for _, c := range []struct {
		leaf  string
		made  []string
		size  uint64
		peaks []string
	}{
		{"aa", []string{"aa"}, 1, []string{"aa"}},
		{"bb", []string{"bb", ab}, 2, []string{ab}},
		{"cc", []string{"cc"}, 3, []string{ab, "cc"}},
		{"dd", []string{"dd", cd, all}, 4, []string{all}},
	} {
		if made := added(t, r, c.leaf); !slices.Equal(made, c.made) {
			t.Errorf("P9.1: Add(%q) = %x, want %x", c.leaf, made, c.made)
		}
		check(t, "P9.1", r, 2, c.size, c.peaks...)
	}
	joined(t, r, 1, "ee")
	check(t, "P9.1", r, 2, 6, all, "ee")
	joined(t, r, 1, "ff")
	eight := node(2, all, node(2, "ee", "ff"))
	check(t, "P9.1", r, 2, 8, eight)
	joined(t, r, 2, "gg")
	check(t, "P9.1", r, 2, 12, eight, "gg")
	if made, e := r.Add("a"); len(made) != 0 || e != api.ErrPeaks {
		t.Errorf("P9.1: Add of one byte = %x, %d", made, e)
	}
	if e := r.Join(3, "hh"); e != api.ErrOrder {
		t.Errorf("P9.1: Join(3, hh) at the size 12 = %d", e)
	}
	check(t, "P9.5", r, 2, 12, eight, "gg")
	joined(t, r, 2, "hh")
	check(t, "P9.1", r, 2, 16, node(2, eight, node(2, "gg", "hh")))
}

func TestFromExample(t *testing.T) {
	check(t, "P9.1", from(t, 2, 5, "pp", "qq"), 2, 5, "pp", "qq")
	for _, c := range []struct {
		k    int
		n    uint64
		list []string
		want api.Errno
	}{
		{2, 5, []string{"pp"}, 90},
		{2, 5, []string{"pp", "q"}, 90},
		{33, 5, nil, 70},
		{2, 1<<40 + 1, nil, 30},
	} {
		if r, e := peaks.From(c.k, c.n, c.list); r != nil || e != c.want {
			t.Errorf("P9.1: From(%d, %d, %q) = %v, %d, want %d", c.k, c.n, c.list, r, e, c.want)
		}
	}
}

// By sha256sum: 01 and the sums of 00 61 and 00 62; 02, that and the sum of 00 63; 03, a size and its bag.
func TestKnownRoots(t *testing.T) {
	r := fresh(t, 32)
	for n, digits := range []string{
		"dc4c8669df128318c5790c414c870cc76c585268552851e78d3ee8604dbec0e3",
		"bb528eaa0c7c2557619d270c12ad8f09b32c6961b2265fb5e625e8feb03e55ad",
		"f919580afadccc62e0cb76850dc081b17a8d988b70382d07a91abc850e246d68",
		"6356b7c28e03afe7a9f1ab896b8df936d1920a4e168887259c419b9c452c8e92",
	} {
		want, err := hex.DecodeString(digits)
		if err != nil {
			t.Fatal(err)
		}
		if got := r.Root(); got != (api.Root{Size: uint64(n), Digest: string(want)}) {
			t.Errorf("P9.2: Root of %d items = %d, %x, want %s", n, got.Size, got.Digest, digits)
		}
		if n < 3 {
			added(t, r, hash.Leaf(32, "abc"[n:n+1]))
		}
	}
}

func TestJoinOfHeightNothing(t *testing.T) {
	c := chance(91)
	for _, k := range []int{1, 2, 31, 32} {
		r, s := fresh(t, k), fresh(t, k)
		for range 70 {
			d := c.text(k)
			added(t, r, d)
			joined(t, s, 0, d)
			alike(t, "P9.1: Join(0, d) against Add(d)", s, r)
		}
		for _, d := range []string{"", c.text(k - 1), c.text(k + 1)} {
			if made, e := r.Add(d); len(made) != 0 || e != api.ErrPeaks || s.Join(0, d) != e {
				t.Errorf("P9.1: Add of %d bytes at the strength %d = %x, %d", len(d), k, made, e)
			}
		}
	}
}

func TestJoinAtSizes(t *testing.T) {
	for _, n := range []uint64{0, 4, 6, 8, 9, 12, 16, 24} {
		list := some(2, bits.OnesCount64(n))
		r := from(t, 2, n, list...)
		e := r.Join(3, "dd")
		if n%8 != 0 {
			if e != api.ErrOrder {
				t.Errorf("P9.1: Join(3, d) at the size %d = %d, want ErrOrder", n, e)
			}
			check(t, "P9.5", r, 2, n, list...)
			continue
		}
		if e != api.OK {
			t.Errorf("P9.1: Join(3, d) at the size %d = %d", n, e)
		}
		switch n {
		case 0:
			check(t, "P9.1", r, 2, 8, "dd")
		case 8:
			check(t, "P9.1", r, 2, 16, node(2, list[0], "dd"))
		case 16:
			check(t, "P9.1", r, 2, 24, list[0], "dd")
		case 24:
			check(t, "P9.1", r, 2, 32, node(2, list[0], node(2, list[1], "dd")))
		}
	}
	// The two that became one of height 4 are one for what comes behind, too.
	r := from(t, 2, 8, "pp")
	joined(t, r, 3, "dd")
	joined(t, r, 4, "ee")
	check(t, "P9.1", r, 2, 32, node(2, node(2, "pp", "dd"), "ee"))
}

func TestTheGreatestTree(t *testing.T) {
	for _, k := range []int{1, 2, 32} {
		d := some(k, 1)[0]
		r := fresh(t, k)
		joined(t, r, 40, d)
		check(t, "P9.1", r, k, most, d)
		if made, e := r.Add(d); len(made) != 0 || e != api.ErrSize {
			t.Errorf("P9.1: Add at the size 2^40 = %x, %d", made, e)
		}
		if made, e := r.Add(d + "x"); len(made) != 0 || e != api.ErrPeaks {
			t.Errorf("P9.1: Add of a long digest at the size 2^40 = %x, %d", made, e)
		}
		for h := -3; h <= 66; h++ {
			want := api.ErrSize
			if h < 0 || h > 40 {
				want = api.ErrOrder
			}
			if e := r.Join(h, d); e != want {
				t.Errorf("P9.1: Join(%d, d) at the size 2^40 = %d, want %d", h, e, want)
			}
			if e := r.Join(h, d[1:]); e != api.ErrPeaks {
				t.Errorf("P9.1: Join(%d, a short digest) at the size 2^40 = %d", h, e)
			}
		}
		check(t, "P9.5", r, k, most, d)
		one := from(t, k, 1, d)
		if e := one.Join(40, d); e != api.ErrOrder {
			t.Errorf("P9.1: Join(40, d) at the size 1 = %d", e)
		}
		check(t, "P9.5", one, k, 1, d)
	}
}

func TestWrongHeights(t *testing.T) {
	for _, n := range []uint64{0, 1, 8, 9, 1 << 39, most - 1, most} {
		list := some(2, bits.OnesCount64(n))
		r := from(t, 2, n, list...)
		for _, h := range []int{41, -1, 42, 63, 64, 65, 127, 128, 255, 256, 1 << 32, 1<<32 + 1, -2, -40, -63, -64, -1 << 32, math.MinInt32, math.MinInt, math.MinInt + 1, math.MaxInt - 1, math.MaxInt} {
			if e := r.Join(h, "dd"); e != api.ErrOrder {
				t.Errorf("P9.1: Join(%d, d) at the size %d = %d, want ErrOrder", h, n, e)
			}
			for _, d := range []string{"", "d", "ddd"} {
				if e := r.Join(h, d); e != api.ErrPeaks {
					t.Errorf("P9.1: Join(%d, %q) at the size %d = %d, want ErrPeaks", h, d, n, e)
				}
			}
		}
		check(t, "P9.5", r, 2, n, list...)
	}
}

func TestFromNothing(t *testing.T) {
	c := chance(92)
	for k := 1; k <= 32; k++ {
		for _, list := range [][]string{nil, {}, c.texts(k, 3)[:0]} {
			r, s := from(t, k, 0, list...), fresh(t, k)
			check(t, "P9.1", r, k, 0)
			check(t, "P9.1", s, k, 0)
			for range 9 {
				d := c.text(k)
				if a, b := added(t, r, d), added(t, s, d); !slices.Equal(a, b) {
					t.Fatalf("P9.4: Add answers %x from nothing, %x from New", a, b)
				}
				alike(t, "P9.4", r, s)
			}
		}
		if got, want := fresh(t, k).Root(), (api.Root{Digest: hash.Root(k, 0, nil)}); got != want {
			t.Errorf("P9.1: Root of size 0 = %d, %x, want %x", got.Size, got.Digest, want.Digest)
		}
	}
}

func TestFromThree(t *testing.T) {
	r := from(t, 2, 3, "pp", "qq")
	if made := added(t, r, "rr"); !slices.Equal(made, []string{"rr", node(2, "qq", "rr"), node(2, "pp", node(2, "qq", "rr"))}) {
		t.Errorf("P9.1: Add behind three items = %x", made)
	}
	check(t, "P9.1", r, 2, 4, node(2, "pp", node(2, "qq", "rr")))
	if e := from(t, 2, 3, "pp", "qq").Join(1, "rr"); e != api.ErrOrder {
		t.Errorf("P9.1: Join(1, d) behind three items = %d", e)
	}
}

func TestNewOfEveryStrength(t *testing.T) {
	for _, k := range strengths() {
		r, e := peaks.New(k)
		if k < 1 || k > 32 {
			if r != nil || e != api.ErrStrength {
				t.Errorf("P9.1: New(%d) = %v, %d", k, r, e)
			}
			continue
		}
		if r == nil || e != api.OK {
			t.Fatalf("P9.1: New(%d) = %v, %d", k, r, e)
		}
		check(t, "P9.1", r, k, 0)
	}
	if _, e := peaks.New(0); e != 70 {
		t.Errorf("P9.1: ErrStrength is %d, want 70", e)
	}
}

// sizes are at, below and above the bound, some right by their lowest bits alone.
func sizes() []uint64 {
	list := []uint64{0, 1, 2, 3, 5, 7, 1<<32 - 1, 1 << 32, 1<<39 + 1, most - 2, most - 1, most, most + 1, most + 3, 2*most - 1, 2 * most, 1 << 63, 1<<63 + 1, math.MaxUint64 - 1, math.MaxUint64}
	for h := range 64 {
		list = append(list, 1<<h)
	}
	return list
}

// wrongPeaks are as many texts as n has ones, one too few and one too many, and some of which one is too short, too long or nothing.
func wrongPeaks(c *chance, k int, n uint64) [][]string {
	k = min(max(k, 1), 32)
	count := bits.OnesCount64(n)
	right := c.texts(k, count)
	lists := [][]string{right, nil, append(slices.Clone(right), c.text(k)), append(slices.Clone(right), ""), c.texts(k+1, count), c.texts(k-1, count)}
	if count > 0 {
		lists = append(lists, right[:count-1], right[1:])
	}
	for _, at := range []int{0, count / 2, count - 1} {
		for _, length := range []int{0, k - 1, k + 1, 2 * k, 256 + k} {
			if at >= 0 && at < count {
				wrong := slices.Clone(right)
				wrong[at] = c.text(length)
				lists = append(lists, wrong)
			}
		}
	}
	return lists
}

func TestFromErrors(t *testing.T) {
	c := chance(93)
	seen := map[api.Errno]int{}
	for _, k := range strengths() {
		for _, n := range sizes() {
			for _, list := range wrongPeaks(&c, k, n) {
				want := api.OK
				switch wrong := func(d string) bool { return len(d) != k }; {
				case k < 1 || k > 32:
					want = api.ErrStrength
				case n > most:
					want = api.ErrSize
				case len(list) != bits.OnesCount64(n) || slices.ContainsFunc(list, wrong):
					want = api.ErrPeaks
				}
				seen[want]++
				r, e := peaks.From(k, n, list)
				if e != want || (r == nil) != (want != api.OK) {
					t.Fatalf("P9.1: From(%d, %d, %x) = %v, %d, want %d", k, n, list, r, e, want)
				}
				if want == api.OK && !has(r, k, n, list) {
					t.Fatalf("P9.1: From(%d, %d, %x) has the size %d, the peaks %x", k, n, list, r.Size(), r.Peaks())
				}
			}
		}
	}
	if len(seen) != 4 {
		t.Errorf("P9.1: some answer of From was never wanted: %v", seen)
	}
}

func TestAddErrors(t *testing.T) {
	c := chance(94)
	for k := 1; k <= 32; k++ {
		for _, n := range []uint64{0, 1, 2, 3, 7, most / 2, most - 2, most - 1, most} {
			list := c.texts(k, bits.OnesCount64(n))
			for _, length := range []int{0, k - 1, k, k + 1, 2 * k, 33, 256 + k} {
				r, m := from(t, k, n, list...), modelFrom(k, n, list)
				leaf := c.text(length)
				want, wrong := m.add(leaf)
				made, e := r.Add(leaf)
				if !slices.Equal(made, want) || e != wrong {
					t.Fatalf("P9.1: Add of %d bytes at the strength %d and the size %d = %x, %d, want %x, %d", length, k, n, made, e, want, wrong)
				}
				check(t, "P9.1", r, k, m.size(), m.peaks()...)
			}
		}
	}
	for _, c := range []struct {
		leaf string
		n    uint64
		want api.Errno
	}{{"l", 0, 90}, {"", most, 90}, {"lea", most, 90}, {"le", most, 30}} {
		r := from(t, 2, c.n, slices.Repeat([]string{"pp"}, bits.OnesCount64(c.n))...)
		if made, e := r.Add(c.leaf); len(made) != 0 || e != c.want {
			t.Errorf("P9.1: Add(%q) at the size %d = %x, %d, want %d", c.leaf, c.n, made, e, c.want)
		}
	}
}

func TestJoinErrors(t *testing.T) {
	c := chance(95)
	seen := map[api.Errno]int{}
	for _, n := range sizes() {
		if n > most {
			continue
		}
		for _, k := range []int{1, 2, 20, 32} {
			list := c.texts(k, bits.OnesCount64(n))
			for h := -2; h <= 43; h++ {
				for _, length := range []int{0, k - 1, k, k + 1, 256 + k} {
					r, m := from(t, k, n, list...), modelFrom(k, n, list)
					d := c.text(length)
					want := m.join(h, d)
					seen[want]++
					if e := r.Join(h, d); e != want {
						t.Fatalf("P9.1: Join(%d, %d bytes) at the strength %d and the size %d = %d, want %d", h, length, k, n, e, want)
					}
					check(t, "P9.1", r, k, m.size(), m.peaks()...)
				}
			}
		}
	}
	if len(seen) != 4 {
		t.Errorf("P9.1: some answer of Join was never wanted: %v", seen)
	}
	r := from(t, 2, most, "pp")
	if a, b, d := r.Join(41, "d"), r.Join(41, "dd"), r.Join(40, "dd"); a != 90 || b != 41 || d != 30 {
		t.Errorf("P9.1: Join at the size 2^40 = %d, %d, %d, want 90, 41, 30", a, b, d)
	}
}

// Ranges near the bound grow up to it, and are refused there.
func TestUpToTheBound(t *testing.T) {
	c := chance(96)
	for short := uint64(1); short <= 70; short++ {
		n := most - short
		list := c.texts(3, bits.OnesCount64(n))
		r, m := from(t, 3, n, list...), modelFrom(3, n, list)
		for range short {
			leaf := c.text(3)
			want, _ := m.add(leaf)
			if made := added(t, r, leaf); !slices.Equal(made, want) {
				t.Fatalf("P9.1: Add near the bound = %x, want %x", made, want)
			}
			check(t, "P9.1", r, 3, m.size(), m.peaks()...)
		}
		if made, e := r.Add("abc"); r.Size() != most || len(made) != 0 || e != api.ErrSize {
			t.Fatalf("P9.1: Add at the size %d = %x, %d", r.Size(), made, e)
		}
		if e := r.Join(0, "abc"); e != api.ErrSize {
			t.Fatalf("P9.1: Join(0, d) at the bound = %d", e)
		}
		check(t, "P9.5", r, 3, most, m.peaks()...)
	}
	for h := 0; h <= 39; h++ {
		n := most - uint64(1)<<h
		list := c.texts(3, bits.OnesCount64(n))
		m := modelFrom(3, n, list)
		r := from(t, 3, n, list...)
		if h < 39 {
			if e := r.Join(h+1, "abc"); e != api.ErrOrder {
				t.Errorf("P9.1: Join(%d, d) at the size %d = %d", h+1, n, e)
			}
		}
		joined(t, r, h, "xyz")
		m.join(h, "xyz")
		check(t, "P9.1", r, 3, most, m.peaks()...)
		if e := r.Join(h, "xyz"); e != api.ErrSize {
			t.Errorf("P9.1: Join(%d, d) at the bound = %d", h, e)
		}
	}
}

// A tree that is in order may still be too much: at 2^39 items one of 2^40 is out of order, at 2^40 it is too much.
func TestOrderAheadOfSize(t *testing.T) {
	for h := 0; h <= 40; h++ {
		for _, n := range []uint64{most, most - 1, most - 2, most / 2, most / 4 * 3} {
			r := from(t, 1, n, slices.Repeat([]string{"p"}, bits.OnesCount64(n))...)
			want := api.OK
			if n%(1<<h) != 0 {
				want = api.ErrOrder
			} else if n+1<<h > most {
				want = api.ErrSize
			}
			if e := r.Join(h, "d"); e != want {
				t.Errorf("P9.1: Join(%d, d) at the size %d = %d, want %d", h, n, e, want)
			}
		}
	}
}

func TestAddsAreTheList(t *testing.T) {
	for _, k := range []int{1, 5, 32} {
		list := counted(260)
		row := leaves(k, list)
		r := fresh(t, k)
		for n, leaf := range row {
			ahead := r.Size()
			made := added(t, r, leaf)
			if len(made) != 1+bits.TrailingZeros64(^ahead) {
				t.Fatalf("P9.2: Add at the size %d answers %d digests", ahead, len(made))
			}
			first, _ := place.Nodes(ahead)
			end, _ := place.Nodes(r.Size())
			if end-first != uint64(len(made)) {
				t.Fatalf("P9.2: Add at the size %d answers %d digests, and %d places are new", ahead, len(made), end-first)
			}
			for i, d := range made {
				b, _ := place.Block(first + uint64(i))
				if want, ok := plain.Tree(k, list, b); d != want || !ok || d != tree(k, row[b.K<<b.H:(b.K+1)<<b.H]) {
					t.Fatalf("P9.2: Add at the size %d answers %x for the block (%d, %d), want %x", ahead, d, b.H, b.K, want)
				}
			}
			now := list[:n+1]
			if got := r.Peaks(); r.Size() != uint64(n+1) || !slices.Equal(got, plain.Peaks(k, now)) {
				t.Fatalf("P9.2: size %d, peaks %x behind %d Adds", r.Size(), got, n+1)
			}
			if want, _ := plain.Root(k, now, uint64(n+1)); r.Root() != want || want != root(k, uint64(n+1), r.Peaks()) {
				t.Fatalf("P9.2: Root behind %d Adds = %x, want %x", n+1, r.Root(), want)
			}
		}
	}
}

func TestAddsOfEveryStrength(t *testing.T) {
	list := counted(37)
	for k := 1; k <= 32; k++ {
		r := fresh(t, k)
		for _, leaf := range leaves(k, list) {
			added(t, r, leaf)
		}
		if want, _ := plain.Root(k, list, 37); r.Root() != want || !slices.Equal(r.Peaks(), plain.Peaks(k, list)) {
			t.Errorf("P9.2: Root of 37 items of the strength %d = %x, want %x", k, r.Root(), want)
		}
	}
}

func TestManyAdds(t *testing.T) {
	list := counted(1<<14 + 4321)
	r, m := fresh(t, 32), modelFrom(32, 0, nil)
	places := uint64(0)
	for _, leaf := range leaves(32, list) {
		want := m.come(0, leaf)
		made := added(t, r, leaf)
		if !slices.Equal(made, want) {
			t.Fatalf("P9.2: Add at the size %d = %x, want %x", r.Size()-1, made, want)
		}
		places += uint64(len(made))
	}
	if want, _ := plain.Root(32, list, uint64(len(list))); r.Root() != want || !slices.Equal(r.Peaks(), plain.Peaks(32, list)) {
		t.Errorf("P9.2: Root of %d items = %x, want %x", len(list), r.Root(), want)
	}
	if want, _ := place.Nodes(uint64(len(list))); places != want {
		t.Errorf("P9.2: %d items have %d digests, want %d", len(list), places, want)
	}
}

// Digests that are the same, or are those of other things, are digests like all others.
func TestAnyDigests(t *testing.T) {
	for _, d := range []string{"\x00\x00", "\xff\xff", "\x01\x00", "aa"} {
		r, m := fresh(t, 2), modelFrom(2, 0, nil)
		for range 20 {
			want, _ := m.add(d)
			if made := added(t, r, d); !slices.Equal(made, want) {
				t.Fatalf("P9.1: Add(%x) = %x, want %x", d, made, want)
			}
			check(t, "P9.1", r, 2, m.size(), m.peaks()...)
		}
	}
}

func TestJoinIsAdds(t *testing.T) {
	for _, k := range []int{1, 7, 32} {
		row := leaves(k, counted(96))
		row = append(row, leaves(k, counted(1<<9))...)
		for h := 0; h <= 8; h++ {
			whole := uint64(1) << h
			for n := uint64(0); n+whole <= uint64(len(row)); n += whole {
				if n > 96 && n%128 != 0 {
					continue
				}
				r, s := fresh(t, k), fresh(t, k)
				for _, leaf := range row[:n] {
					added(t, r, leaf)
					added(t, s, leaf)
				}
				joined(t, r, h, tree(k, row[n:n+whole]))
				for _, leaf := range row[n : n+whole] {
					added(t, s, leaf)
				}
				alike(t, "P9.3: Join against Adds", r, s)
				if made, want := added(t, r, row[0]), added(t, s, row[0]); !slices.Equal(made, want) {
					t.Fatalf("P9.3: behind Join(%d) at the size %d Add answers %x, want %x", h, n, made, want)
				}
				alike(t, "P9.3: an Add behind Join", r, s)
			}
		}
	}
}

// Trees that are too high for Adds: one is as its two halves, one behind the other.
func TestJoinIsTwoJoins(t *testing.T) {
	c := chance(97)
	for h := 1; h <= 40; h++ {
		for range 12 {
			n := c.next() % (most - 1<<h + 1) >> h << h
			list := c.texts(9, bits.OnesCount64(n))
			a, b := c.text(9), c.text(9)
			r, s := from(t, 9, n, list...), from(t, 9, n, list...)
			joined(t, r, h, node(9, a, b))
			joined(t, s, h-1, a)
			joined(t, s, h-1, b)
			alike(t, "P9.3: Join against its halves", r, s)
		}
	}
}

// A list laid by trees of any heights has the list's peaks.
func TestTreesAreTheList(t *testing.T) {
	c := chance(98)
	list := counted(300)
	row := leaves(32, list)
	for range 40 {
		r := fresh(t, 32)
		for n := 0; n < len(row); {
			h := c.below(8)
			for n%(1<<h) != 0 || n+1<<h > len(row) {
				h--
			}
			joined(t, r, h, tree(32, row[n:n+1<<h]))
			n += 1 << h
			if want, _ := plain.Root(32, list, uint64(n)); r.Root() != want || !slices.Equal(r.Peaks(), plain.Peaks(32, list[:n])) {
				t.Fatalf("P9.3: trees over %d items: root %x, want %x", n, r.Root(), want)
			}
		}
	}
}

// step does one call of any kind, right or wrong, to a range and to its model.
func step(t *testing.T, c *chance, r *peaks.Range, m *model) {
	t.Helper()
	length := m.k
	if c.below(8) == 0 {
		length = []int{0, m.k - 1, m.k + 1, 2 * m.k}[c.below(4)]
	}
	d := c.text(length)
	if c.below(2) == 0 {
		want, wrong := m.add(d)
		if made, e := r.Add(d); !slices.Equal(made, want) || e != wrong {
			t.Fatalf("P9.1: Add(%x) = %x, %d, want %x, %d", d, made, e, want, wrong)
		}
	} else {
		h := c.below(5) - 1
		if c.below(3) == 0 {
			h = c.below(44) - 1
		}
		wrong := m.join(h, d)
		if e := r.Join(h, d); e != wrong {
			t.Fatalf("P9.1: Join(%d, %x) = %d, want %d", h, d, e, wrong)
		}
	}
	check(t, "P9.1", r, m.k, m.size(), m.peaks()...)
}

func TestAnyOrderOfCalls(t *testing.T) {
	c := chance(99)
	for _, k := range []int{1, 2, 8, 31, 32} {
		for range 60 {
			n := c.next() % (most + 1) >> c.below(41)
			list := c.texts(k, bits.OnesCount64(n))
			r, m := from(t, k, n, list...), modelFrom(k, n, list)
			for range 40 {
				step(t, &c, r, m)
			}
		}
	}
}

// Ranges that are asked in turns answer each for itself.
func TestRangesInTurns(t *testing.T) {
	c := chance(910)
	var ranges []*peaks.Range
	var models []*model
	for i := range 12 {
		k := 1 + i%3
		n := c.next() % (most + 1) >> (4 * i)
		list := c.texts(k, bits.OnesCount64(n))
		ranges, models = append(ranges, from(t, k, n, list...)), append(models, modelFrom(k, n, list))
	}
	for range 3000 {
		i := c.below(len(ranges))
		step(t, &c, ranges[i], models[i])
		for j, r := range ranges {
			if r.Size() != models[j].size() {
				t.Fatalf("P9.6: a call to the range %d changed the range %d", i, j)
			}
		}
	}
	for i, r := range ranges {
		check(t, "P9.6", r, models[i].k, models[i].size(), models[i].peaks()...)
	}
}

func TestGoingOn(t *testing.T) {
	c := chance(911)
	for _, k := range []int{1, 2, 32} {
		r := fresh(t, k)
		for range 300 {
			s := from(t, k, r.Size(), r.Peaks()...)
			alike(t, "P9.4", s, r)
			twin := from(t, k, s.Size(), s.Peaks()...)
			for range 6 {
				d, h := c.text(k), c.below(4)
				if c.below(2) == 0 {
					a, b := added(t, s, d), added(t, twin, d)
					if !slices.Equal(a, b) {
						t.Fatalf("P9.4: Add answers %x, and %x to the one that goes on", a, b)
					}
				} else if a, b := s.Join(h, d), twin.Join(h, d); a != b {
					t.Fatalf("P9.4: Join(%d, d) at the size %d answers %d, and %d to the one that goes on", h, s.Size(), a, b)
				}
				alike(t, "P9.4", s, twin)
			}
			added(t, r, c.text(k))
		}
	}
}

// Two lists with one beginning: the second goes on from the first's size and peaks, without any item of it.
func TestGoingOnIsTheList(t *testing.T) {
	list := counted(150)
	row := leaves(32, list)
	for m := range len(list) {
		r := from(t, 32, uint64(m), plain.Peaks(32, list[:m])...)
		for _, leaf := range row[m:] {
			added(t, r, leaf)
		}
		if want, _ := plain.Root(32, list, uint64(len(list))); r.Root() != want {
			t.Fatalf("P9.4: the list from its first %d items on has the root %x, want %x", m, r.Root(), want)
		}
	}
}

// refused makes every kind of wrong call, and tells how many there were.
func refused(t *testing.T, c *chance, r *peaks.Range, k int) int {
	t.Helper()
	count := 0
	note := func(e api.Errno) {
		if e != api.OK {
			count++
		}
	}
	for _, length := range []int{0, k - 1, k + 1} {
		made, e := r.Add(c.text(length))
		if e != api.ErrPeaks || len(made) != 0 {
			t.Fatalf("P9.1: Add of %d bytes = %x, %d", length, made, e)
		}
		note(e)
		for _, h := range []int{-1, 0, 1, 40, 41} {
			note(r.Join(h, c.text(length)))
		}
	}
	for _, h := range []int{math.MinInt, -1, 41, math.MaxInt} {
		note(r.Join(h, c.text(k)))
	}
	for h := range 41 {
		if n := r.Size(); n%(1<<h) != 0 || n+1<<h > most {
			note(r.Join(h, c.text(k)))
		}
	}
	if r.Size() == most {
		_, e := r.Add(c.text(k))
		note(e)
	}
	return count
}

func TestRefusedChangesNothing(t *testing.T) {
	c := chance(912)
	for _, k := range []int{1, 2, 32} {
		for _, n := range []uint64{0, 1, 2, 3, 4, 7, 8, 12, 100, 1<<20 + 1, most - 8, most - 3, most - 1, most} {
			list := c.texts(k, bits.OnesCount64(n))
			r, twin := from(t, k, n, list...), from(t, k, n, list...)
			for range 6 {
				size, row, was := r.Size(), r.Peaks(), r.Root()
				if refused(t, &c, r, k) < 20 {
					t.Fatalf("P9.5: too few calls were refused at the size %d", size)
				}
				if r.Size() != size || !slices.Equal(r.Peaks(), row) || r.Root() != was {
					t.Fatalf("P9.5: refused calls changed the range of size %d: %d, %x", size, r.Size(), r.Peaks())
				}
				d := c.text(k)
				a, x := r.Add(d)
				b, y := twin.Add(d)
				if !slices.Equal(a, b) || x != y {
					t.Fatalf("P9.5: behind refused calls Add answers %x, %d, without them %x, %d", a, x, b, y)
				}
				alike(t, "P9.5: behind refused calls", r, twin)
			}
		}
	}
}

func TestAskingChangesNothing(t *testing.T) {
	c := chance(913)
	r, m := fresh(t, 4), modelFrom(4, 0, nil)
	for range 40 {
		for range 3 {
			check(t, "P9.1: asked again", r, 4, m.size(), m.peaks()...)
		}
		step(t, &c, r, m)
	}
}

// The list that is handed to From is not changed, nor the room behind it; written over and grown it changes no range.
func TestHandedListIsNotKept(t *testing.T) {
	c := chance(914)
	for _, n := range []uint64{0, 1, 3, 7, 8, 1000, most - 1, most} {
		count := bits.OnesCount64(n)
		room := c.texts(5, count+6)
		was := slices.Clone(room)
		list := room[:count]
		r, s := from(t, 5, n, list...), from(t, 5, n, list...)
		m := modelFrom(5, n, was[:count])
		for range 9 {
			r.Add(c.text(5))
			r.Join(0, c.text(5))
			r.Join(1, c.text(5))
			r.Peaks()
			r.Root()
		}
		if !slices.Equal(room, was) {
			t.Fatalf("P9.6: a range of size %d changed the list that was handed in, or the room behind it", n)
		}
		check(t, "P9.6: two ranges of one list", s, 5, n, m.peaks()...)
		late := from(t, 5, n, list...)
		spoil(list)
		check(t, "P9.6: the list was written over", s, 5, n, m.peaks()...)
		check(t, "P9.6: the list was written over", late, 5, n, m.peaks()...)
		for range 9 {
			step(t, &c, late, m)
		}
	}
	for _, list := range wrongPeaks(&c, 5, 21) {
		was := slices.Clone(list)
		for _, k := range []int{0, 5, 33} {
			peaks.From(k, 21, list)
			peaks.From(k, math.MaxUint64, list)
		}
		if !slices.Equal(list, was) {
			t.Fatalf("P9.6: a From that is refused changed %x", was)
		}
	}
}

func TestAnsweredListsAreTheCallers(t *testing.T) {
	c := chance(915)
	for _, n := range []uint64{0, 1, 2, 3, 7, 31, 32, 1<<30 - 1, most - 40} {
		list := c.texts(6, bits.OnesCount64(n))
		r, m := from(t, 6, n, list...), modelFrom(6, n, list)
		for range 35 {
			first, second := r.Peaks(), r.Peaks()
			spoil(first)
			if !slices.Equal(second, m.peaks()) {
				t.Fatalf("P9.6: two answers of Peaks at the size %d share room", m.size())
			}
			check(t, "P9.6: an answer of Peaks was written over", r, 6, m.size(), m.peaks()...)
			was := m.peaks()
			leaf := c.text(6)
			want := m.come(0, leaf)
			made := added(t, r, leaf)
			if !slices.Equal(made, want) || !slices.Equal(second, was) {
				t.Fatalf("P9.6: Add at the size %d = %x, want %x; the peaks told ahead of it are %x, were %x", m.size()-1, made, want, second, was)
			}
			now := r.Peaks()
			spoil(made)
			check(t, "P9.6: an answer of Add was written over", r, 6, m.size(), m.peaks()...)
			if !slices.Equal(now, m.peaks()) {
				t.Fatalf("P9.6: answers of Add and of Peaks at the size %d share room", m.size())
			}
		}
	}
}

// What was answered stays, whatever the range does later.
func TestAnswersStay(t *testing.T) {
	c := chance(916)
	r, m := fresh(t, 3), modelFrom(3, 0, nil)
	var answers, wants [][]string
	for range 130 {
		leaf := c.text(3)
		answers, wants = append(answers, added(t, r, leaf)), append(wants, m.come(0, leaf))
		answers, wants = append(answers, r.Peaks()), append(wants, m.peaks())
	}
	joined(t, r, 1, "abc")
	for i, list := range answers {
		if !slices.Equal(list, wants[i]) {
			t.Fatalf("P9.6: an answer became %x, was %x", list, wants[i])
		}
	}
	for i, list := range answers {
		spoil(list)
		if i+1 < len(answers) && !slices.Equal(answers[i+1], wants[i+1]) {
			t.Fatalf("P9.6: the answers %d and %d share room", i, i+1)
		}
	}
}

// A range that goes on from another's peaks shares nothing with it.
func TestRangesShareNothing(t *testing.T) {
	c := chance(917)
	for _, n := range []uint64{1, 3, 7, 63, 64, most - 33} {
		list := c.texts(4, bits.OnesCount64(n))
		r := from(t, 4, n, list...)
		s := from(t, 4, r.Size(), r.Peaks()...)
		one, other := modelFrom(4, n, list), modelFrom(4, n, list)
		for range 30 {
			step(t, &c, r, one)
			check(t, "P9.6: the other range", s, 4, other.size(), other.peaks()...)
			step(t, &c, s, other)
			check(t, "P9.6: the other range", r, 4, one.size(), one.peaks()...)
		}
	}
}

// What a call answers hangs on its arguments and on what was done to its range, whatever else was done.
func TestOneAnswer(t *testing.T) {
	row := leaves(8, counted(50))
	var first []string
	for round := range 3 {
		r := fresh(t, 8)
		var all []string
		for _, leaf := range row {
			all = append(all, added(t, r, leaf)...)
			all = append(all, r.Root().Digest)
			fresh(t, 3).Join(round, strings.Repeat("x", 3))
		}
		if round == 0 {
			first = all
		}
		if !slices.Equal(all, first) {
			t.Fatal("R11: the same calls, and other answers")
		}
	}
}
