package plain_test

import (
	"crypto/sha256"
	"encoding/binary"
	"encoding/hex"
	"math"
	"math/big"
	"slices"
	"strconv"
	"strings"
	"testing"

	"massif/api"
	"massif/hash"
	"massif/plain"
)

// chance gives numbers by a rule, the same ones in every run.
type chance uint64

func (c *chance) next() uint64 {
	*c = *c*6364136223846793005 + 1442695040888963407
	return uint64(*c)>>32 ^ uint64(*c)<<32
}

// below is a number from 0 to n - 1.
func (c *chance) below(n int) int {
	return int(c.next() % (1 << 32) * uint64(n) >> 32)
}

// text has n bytes of any kind, those that are no UTF-8 among them.
func (c *chance) text(n int) string {
	row := make([]byte, n)
	for i := range row {
		row[i] = byte(c.next())
	}
	return string(row)
}

// items are n texts of any lengths, "" and the same one twice among them.
func (c *chance) items(n int) []string {
	list := make([]string, n)
	for i := range list {
		list[i] = c.text([]int{0, 0, 1, 1, 7, 55, 64, 65, c.below(100)}[c.below(9)])
	}
	return list
}

// counted are n items, each unlike all others.
func counted(n int) []string {
	list := make([]string, n)
	for i := range list {
		list[i] = "item " + strconv.Itoa(i)
	}
	return list
}

// strengths go from below the least to above the greatest one, and to the ends of int; some are strengths by their lowest bits alone.
func strengths() []int {
	list := []int{math.MinInt, math.MinInt + 1, math.MinInt + 32, math.MaxInt - 1, math.MaxInt, 1<<8 + 1, 1<<32 + 8, -1<<32 + 8}
	for k := -3; k <= 36; k++ {
		list = append(list, k)
	}
	return list
}

// digest is the library's sum of a text, cut to the nearest strength.
func digest(k int, text string) string {
	sum := sha256.Sum256([]byte(text))
	return string(sum[:min(max(k, 1), 32)])
}

// level is the nodes of all blocks of one height, with the texts that they are made of.
type level struct{ nodes, texts []string }

// levels are laid from the leaves up: each node of two below it, the odd one left alone.
func levels(k int, list []string) []level {
	var row level
	for _, item := range list {
		row.texts = append(row.texts, "\x00"+item)
	}
	var all []level
	for len(row.texts) > 0 {
		for _, text := range row.texts {
			row.nodes = append(row.nodes, digest(k, text))
		}
		all = append(all, row)
		var above level
		for i := 0; i+1 < len(row.nodes); i += 2 {
			above.texts = append(above.texts, "\x01"+row.nodes[i]+row.nodes[i+1])
		}
		row = above
	}
	return all
}

// peaks are gathered item by item: two of one height become their parent.
func peaks(k int, list []string) []string {
	var row []string
	var heights []int
	for _, item := range list {
		row, heights = append(row, digest(k, "\x00"+item)), append(heights, 0)
		for n := len(row); n > 1 && heights[n-1] == heights[n-2]; n = len(row) {
			row = append(row[:n-2:n-2], digest(k, "\x01"+row[n-2]+row[n-1]))
			heights = append(heights[:n-2:n-2], heights[n-2]+1)
		}
	}
	return row
}

// root is the commitment to a whole list.
func root(k int, list []string) api.Root {
	row := peaks(k, list)
	for n := len(row); n > 1; n = len(row) {
		row = append(row[:n-2:n-2], digest(k, "\x02"+row[n-2]+row[n-1]))
	}
	size := binary.BigEndian.AppendUint64([]byte{3}, uint64(len(list)))
	return api.Root{Size: uint64(len(list)), Digest: digest(k, string(size)+strings.Join(row, ""))}
}

// within tells whether a block may be and its last item is below n, by numbers without a bound.
func within(b api.Block, n int) bool {
	if b.H < 0 || b.H > 40 {
		return false
	}
	end := new(big.Int).SetUint64(b.K)
	end.Add(end, big.NewInt(1)).Lsh(end, uint(b.H))
	return end.Cmp(big.NewInt(int64(n))) <= 0
}

// clash tells two unlike texts of one digest among those of the leaves and nodes of two lists.
func clash(k int, a, b []string) (string, string, bool) {
	known := map[string]string{}
	for _, list := range [][]string{a, b} {
		for _, row := range levels(k, list) {
			for i, text := range row.texts {
				if other, ok := known[row.nodes[i]]; ok && other != text {
					return other, text, true
				}
				known[row.nodes[i]] = text
			}
		}
	}
	return "", "", false
}

func unhex(t *testing.T, digits string) string {
	t.Helper()
	row, err := hex.DecodeString(digits)
	if err != nil {
		t.Fatal(err)
	}
	return string(row)
}

func TestTreeByHand(t *testing.T) {
	a, b, c := hash.Leaf(32, "a"), hash.Leaf(32, "b"), hash.Leaf(32, "c")
	list := []string{"a", "b", "c"}
	four := []string{"a", "b", "c", "a"}
	for _, one := range []struct {
		name string
		list []string
		b    api.Block
		want string
		ok   bool
	}{
		{"the first item", list, api.Block{H: 0, K: 0}, a, true},
		{"the second item", list, api.Block{H: 0, K: 1}, b, true},
		{"the third item", list, api.Block{H: 0, K: 2}, c, true},
		{"an item behind the last one", list, api.Block{H: 0, K: 3}, "", false},
		{"two items", list, api.Block{H: 1, K: 0}, hash.Node(32, a, b), true},
		{"two items, of which one is there", list, api.Block{H: 1, K: 1}, "", false},
		{"four items, of which three are there", list, api.Block{H: 2, K: 0}, "", false},
		{"the other two of four", four, api.Block{H: 1, K: 1}, hash.Node(32, c, a), true},
		{"four items", four, api.Block{H: 2, K: 0}, hash.Node(32, hash.Node(32, a, b), hash.Node(32, c, a)), true},
		{"one item", []string{""}, api.Block{}, hash.Leaf(32, ""), true},
		{"two items of one", []string{"a"}, api.Block{H: 1, K: 0}, "", false},
		{"an item of none", nil, api.Block{}, "", false},
		{"an item of an empty list", []string{}, api.Block{}, "", false},
	} {
		if d, ok := plain.Tree(32, one.list, one.b); d != one.want || ok != one.ok {
			t.Errorf("P8.1: Tree of %s = %x, %v, want %x, %v", one.name, d, ok, one.want, one.ok)
		}
	}
	// By sha256sum of 01, the sum of 00 61 and the sum of 00 62.
	if d, _ := plain.Tree(32, list, api.Block{H: 1}); d != unhex(t, "b137985ff484fb600db93107c77b0365c80d78f5b429ded0fd97361d077999eb") {
		t.Errorf("P8.1: Tree of a and b = %x", d)
	}
}

func TestEveryBlock(t *testing.T) {
	c := chance(81)
	for n := range 42 {
		list := c.items(n)
		for _, k := range []int{math.MinInt, -1, 0, 1, 2, 8, 31, 32, 33, math.MaxInt} {
			all := levels(k, list)
			for h := -2; h <= 43; h++ {
				for i := range uint64(n + 3) {
					want, has := "", h >= 0 && h < len(all) && i < uint64(len(all[h].nodes))
					if has {
						want = all[h].nodes[i]
					}
					if d, ok := plain.Tree(k, list, api.Block{H: h, K: i}); d != want || ok != has {
						t.Fatalf("P8.1: Tree(%d, %d items, (%d, %d)) = %x, %v, want %x, %v", k, n, h, i, d, ok, want, has)
					}
				}
			}
		}
	}
}

func TestTreeOfEveryStrength(t *testing.T) {
	list := counted(11)
	for _, k := range strengths() {
		for h, row := range levels(k, list) {
			for i, want := range row.nodes {
				if d, ok := plain.Tree(k, list, api.Block{H: h, K: uint64(i)}); d != want || !ok {
					t.Fatalf("P8.1: Tree(%d, 11 items, (%d, %d)) = %x, %v, want %x", k, h, i, d, ok, want)
				}
			}
		}
	}
}

func TestTreeOfGreatLists(t *testing.T) {
	for _, n := range []int{1000, 1 << 14, 1<<14 + 4321} {
		list := counted(n)
		all := levels(32, list)
		for h, row := range all {
			last := uint64(len(row.nodes) - 1)
			for _, i := range []uint64{0, last / 3, last} {
				if h < 8 || i == last {
					if d, ok := plain.Tree(32, list, api.Block{H: h, K: i}); d != row.nodes[i] || !ok {
						t.Errorf("P8.1: Tree(32, %d items, (%d, %d)) = %x, %v", n, h, i, d, ok)
					}
				}
			}
			if d, ok := plain.Tree(32, list, api.Block{H: h, K: last + 1}); d != "" || ok {
				t.Errorf("P8.1: Tree(32, %d items, (%d, %d)) = %x, %v", n, h, last+1, d, ok)
			}
		}
		if d, ok := plain.Tree(32, list, api.Block{H: len(all)}); d != "" || ok {
			t.Errorf("P8.1: Tree(32, %d items, (%d, 0)) = %x, %v", n, len(all), d, ok)
		}
	}
}

// Blocks that may not be, and those whose ends would wrap to a place within the list.
func TestTreeOfWrongBlocks(t *testing.T) {
	heights := []int{math.MinInt, math.MinInt + 1, math.MinInt + 40, math.MinInt32, -1 << 32, -64, -40, -1, 39, 40, 41, 42, 62, 63, 64, 65, 128, 256, 257, 1 << 32, 1<<32 + 1, math.MaxInt - 1, math.MaxInt}
	for h := range 39 {
		heights = append(heights, h)
	}
	for _, n := range []int{0, 1, 2, 3, 4, 5, 8, 33, 40} {
		list := counted(n)
		for _, h := range heights {
			numbers := []uint64{math.MaxUint64, math.MaxUint64 - 1, math.MaxUint64 / 2, 0, 1}
			for e := range 64 {
				power := uint64(1) << e
				numbers = append(numbers, power-1, power, power+1, math.MaxUint64-power, math.MaxUint64-power+1)
			}
			if h >= 0 && h < 64 {
				last := uint64(n) >> h
				numbers = append(numbers, last-1, last, last+1)
			}
			for _, i := range numbers {
				b := api.Block{H: h, K: i}
				d, ok := plain.Tree(32, list, b)
				if ok != within(b, n) {
					t.Fatalf("P8.1: Tree(32, %d items, (%d, %d)) = %v", n, h, i, ok)
				}
				if !ok && d != "" {
					t.Fatalf("R1: Tree(32, %d items, (%d, %d)) = %x beside false", n, h, i, d)
				}
			}
		}
	}
}

// Items have any length here: one of more than MaxItem bytes is no error.
func TestGreatItems(t *testing.T) {
	great := strings.Repeat("x", api.MaxItem+1)
	list := []string{great, "", great + "y"}
	if d, ok := plain.Tree(32, list, api.Block{H: 0, K: 2}); d != digest(32, "\x00"+great+"y") || !ok {
		t.Errorf("P8.1: Tree of an item of %d bytes = %x, %v", len(list[2]), d, ok)
	}
	if row := plain.Peaks(32, list); !slices.Equal(row, peaks(32, list)) {
		t.Errorf("P8.2: Peaks of items above MaxItem = %x", row)
	}
	if r, e := plain.Root(32, list, 3); r != root(32, list) || e != api.OK {
		t.Errorf("P8.3: Root of items above MaxItem = %x, %d", r, e)
	}
}

func TestPeaksByHand(t *testing.T) {
	leaf := func(item string) string { return hash.Leaf(8, item) }
	node := func(a, b string) string { return hash.Node(8, a, b) }
	ab, cd := node(leaf("a"), leaf("b")), node(leaf("c"), leaf("d"))
	for _, c := range []struct {
		items string
		want  []string
	}{
		{"", nil},
		{"a", []string{leaf("a")}},
		{"ab", []string{ab}},
		{"abc", []string{ab, leaf("c")}},
		{"abcd", []string{node(ab, cd)}},
		{"abcde", []string{node(ab, cd), leaf("e")}},
		{"abcdef", []string{node(ab, cd), node(leaf("e"), leaf("f"))}},
		{"abcdefg", []string{node(ab, cd), node(leaf("e"), leaf("f")), leaf("g")}},
	} {
		if row := plain.Peaks(8, strings.Split(c.items, "")); !slices.Equal(row, c.want) {
			t.Errorf("P8.2: Peaks of %q = %x, want %x", c.items, row, c.want)
		}
	}
	if len(plain.Peaks(8, nil)) != 0 || len(plain.Peaks(8, []string{})) != 0 {
		t.Error("P8.2: peaks of no item")
	}
}

func TestPeaks(t *testing.T) {
	c := chance(82)
	for n := range 70 {
		list := c.items(n)
		for _, k := range strengths() {
			if row := plain.Peaks(k, list); !slices.Equal(row, peaks(k, list)) {
				t.Fatalf("P8.2: Peaks(%d, %d items) = %x, want %x", k, n, row, peaks(k, list))
			}
		}
	}
	for _, n := range []int{1023, 1024, 1025, 4096, 21845, 65535, 65536} {
		list := counted(n)
		if row := plain.Peaks(32, list); !slices.Equal(row, peaks(32, list)) {
			t.Errorf("P8.2: Peaks(32, %d items) = %x", n, row)
		}
	}
}

// The peaks are the trees of the blocks of the size's ones, side by side.
func TestPeaksAreTrees(t *testing.T) {
	for n := range 100 {
		list := counted(n)
		var want []string
		from := 0
		for h := 40; h >= 0; h-- {
			if n>>h&1 == 1 {
				d, ok := plain.Tree(16, list, api.Block{H: h, K: uint64(from >> h)})
				if !ok {
					t.Fatalf("P8.1: no tree of the height %d at %d of %d items", h, from, n)
				}
				want = append(want, d)
				from += 1 << h
			}
		}
		if row := plain.Peaks(16, list); !slices.Equal(row, want) {
			t.Fatalf("P8.2: Peaks(16, %d items) = %x, want %x", n, row, want)
		}
	}
}

func TestRootByHand(t *testing.T) {
	list := []string{"a", "b", "c"}
	a, b, c := digest(32, "\x00a"), digest(32, "\x00b"), digest(32, "\x00c")
	ab := digest(32, "\x01"+a+b)
	zeros := "\x03\x00\x00\x00\x00\x00\x00\x00"
	for n, text := range []string{zeros + "\x00", zeros + "\x01" + a, zeros + "\x02" + ab, zeros + "\x03" + digest(32, "\x02"+ab+c)} {
		want := api.Root{Size: uint64(n), Digest: digest(32, text)}
		if r, e := plain.Root(32, list, uint64(n)); r != want || e != api.OK {
			t.Errorf("P8.3: Root(32, a b c, %d) = %x, %d, want %x", n, r, e, want)
		}
	}
	// By sha256sum of 03 and eight zeros.
	none := api.Root{Digest: unhex(t, "dc4c8669df128318c5790c414c870cc76c585268552851e78d3ee8604dbec0e3")}
	if r, e := plain.Root(32, nil, 0); r != none || e != api.OK {
		t.Errorf("P8.3: Root(32, nil, 0) = %x, %d, want %x", r, e, none)
	}
}

func TestRootOfWrongNumbers(t *testing.T) {
	list := []string{"a", "b", "c"}
	for _, c := range []struct {
		k    int
		list []string
		n    uint64
		want api.Errno
	}{
		{32, list, 4, api.ErrSize},
		{1, list, 4, api.ErrSize},
		{32, list, math.MaxUint64, api.ErrSize},
		{32, list, 1 << 63, api.ErrSize},
		{32, list, 1<<63 + 2, api.ErrSize},
		{32, list, 1<<32 + 1, api.ErrSize},
		{32, list, api.MaxLeaves + 1, api.ErrSize},
		{32, nil, 1, api.ErrSize},
		{32, []string{}, 1, api.ErrSize},
		{0, list, 9, api.ErrStrength},
		{33, list, 9, api.ErrStrength},
		{0, list, 3, api.ErrStrength},
		{33, list, 3, api.ErrStrength},
		{0, nil, 0, api.ErrStrength},
		{-1, nil, 0, api.ErrStrength},
		{math.MinInt, nil, math.MaxUint64, api.ErrStrength},
		{math.MaxInt, list, 0, api.ErrStrength},
		{1<<32 + 8, list, 1, api.ErrStrength},
	} {
		if r, e := plain.Root(c.k, c.list, c.n); r != (api.Root{}) || e != c.want {
			t.Errorf("P8.3: Root(%d, %d items, %d) = %x, %d, want %d", c.k, len(c.list), c.n, r, e, c.want)
		}
	}
	if _, e := plain.Root(32, list, 4); e != 30 {
		t.Errorf("P8.3: ErrSize is %d, want 30", e)
	}
	if _, e := plain.Root(0, list, 9); e != 70 {
		t.Errorf("P8.3: ErrStrength is %d, want 70", e)
	}
}

func TestRoot(t *testing.T) {
	c := chance(83)
	for _, length := range []int{0, 1, 2, 3, 7, 8, 9, 31, 32, 40} {
		list := c.items(length)
		for _, k := range strengths() {
			for n := range length + 4 {
				var want api.Root
				wrong := api.OK
				switch {
				case k < 1 || k > 32:
					wrong = api.ErrStrength
				case n > length:
					wrong = api.ErrSize
				default:
					want = root(k, list[:n])
				}
				if r, e := plain.Root(k, list, uint64(n)); r != want || e != wrong {
					t.Fatalf("P8.3: Root(%d, %d items, %d) = %x, %d, want %x, %d", k, length, n, r, e, want, wrong)
				}
			}
			for _, n := range []uint64{math.MaxUint64, math.MaxUint64 - 1, 1 << 63, 1 << 32, 1<<32 + 1} {
				wrong := api.ErrSize
				if k < 1 || k > 32 {
					wrong = api.ErrStrength
				}
				if r, e := plain.Root(k, list, n); r != (api.Root{}) || e != wrong {
					t.Fatalf("P8.3: Root(%d, %d items, %d) = %x, %d, want %d", k, length, n, r, e, wrong)
				}
			}
		}
	}
	great := counted(5000)
	for _, n := range []int{0, 1, 1023, 4096, 4999, 5000} {
		if r, e := plain.Root(20, great, uint64(n)); r != root(20, great[:n]) || e != api.OK {
			t.Errorf("P8.3: Root(20, 5000 items, %d) = %x, %d", n, r, e)
		}
	}
}

func TestRootOfNothing(t *testing.T) {
	c := chance(84)
	whole, _ := plain.Root(32, nil, 0)
	for _, list := range [][]string{nil, {}, {""}, {"a"}, {"a", "b", "c"}, c.items(40)} {
		for k := 1; k <= 32; k++ {
			r, e := plain.Root(k, list, 0)
			if e != api.OK || r.Size != 0 || r.Digest != whole.Digest[:k] {
				t.Errorf("P8.3: Root(%d, %d items, 0) = %x, %d, want the first %d bytes of %x", k, len(list), r, e, k, whole.Digest)
			}
		}
	}
}

// Whatever stands behind the first n items, in the list or in the room behind it, the root is theirs.
func TestRootHangsOnTheFirst(t *testing.T) {
	c := chance(85)
	for n := range 41 {
		for _, k := range []int{1, 2, 16, 32} {
			first := c.items(n)
			want := root(k, first)
			for more := range 12 {
				list := append(slices.Clone(first), c.items(more)...)
				if r, e := plain.Root(k, list, uint64(n)); r != want || e != api.OK {
					t.Fatalf("P8.4: Root(%d, %d items and %d more, %d) = %x, %d, want %x", k, n, more, n, r, e, want)
				}
				if r, e := plain.Root(k, list[:n], uint64(n)); r != want || e != api.OK {
					t.Fatalf("P8.4: Root(%d, %d items with room, %d) = %x, %d, want %x", k, n, n, r, e, want)
				}
			}
		}
	}
}

// Items in the room behind the list are none of its own.
func TestRoomIsNotTheList(t *testing.T) {
	room := counted(48)
	for n := range 41 {
		list := room[:n]
		for m := n + 1; m <= len(room); m++ {
			if r, e := plain.Root(32, list, uint64(m)); r != (api.Root{}) || e != api.ErrSize {
				t.Fatalf("P8.3: Root(32, %d items with room, %d) = %x, %d", n, m, r, e)
			}
			if d, ok := plain.Tree(32, list, api.Block{H: 0, K: uint64(m - 1)}); d != "" || ok {
				t.Fatalf("P8.1: Tree(32, %d items with room, (0, %d)) = %x, %v", n, m-1, d, ok)
			}
		}
		if row := plain.Peaks(32, list); !slices.Equal(row, peaks(32, list)) {
			t.Fatalf("P8.2: Peaks(32, %d items with room) = %x", n, row)
		}
	}
}

func TestUnlikeListsHaveUnlikePeaks(t *testing.T) {
	c := chance(86)
	for n := 1; n <= 41; n++ {
		list := c.items(n)
		was := plain.Peaks(32, list)
		for i := range n {
			other := slices.Clone(list)
			other[i] += "\x00"
			if slices.Equal(plain.Peaks(32, other), was) {
				t.Fatalf("P8.4: the peaks of %d items stay, though the item %d changed", n, i)
			}
			j := c.below(n)
			other = slices.Clone(list)
			other[i], other[j] = other[j], other[i]
			if list[i] != list[j] && slices.Equal(plain.Peaks(32, other), was) {
				t.Fatalf("P8.4: the peaks of %d items stay, though the items %d and %d changed places", n, i, j)
			}
		}
	}
}

// With a small strength unlike lists do have the same peaks: then two unlike texts of theirs have one digest.
func TestSamePeaksOfUnlikeLists(t *testing.T) {
	c := chance(87)
	for _, n := range []int{1, 2, 3, 4, 8, 16} {
		same := 0
		for range 3000 {
			a := c.items(n)
			b := slices.Clone(a)
			for range 1 + c.below(3) {
				b[c.below(n)] = c.text(1 + c.below(4))
			}
			if slices.Equal(a, b) || !slices.Equal(plain.Peaks(1, a), plain.Peaks(1, b)) {
				continue
			}
			same++
			if x, y, ok := clash(1, a, b); !ok || x == y || digest(1, x) != digest(1, y) {
				t.Fatalf("P8.4: %q and %q have the same peaks, and no two texts have one digest", a, b)
			}
		}
		if same == 0 {
			t.Errorf("P8.4: no two lists of %d items had the same peaks: the test says nothing", n)
		}
	}
}

func TestListStays(t *testing.T) {
	c := chance(88)
	for n := range 41 {
		room := c.items(n + 5)
		was := slices.Clone(room)
		list := room[:n]
		for _, k := range []int{math.MinInt, 0, 1, 8, 32, 33, math.MaxInt} {
			for h := -1; h <= 41; h++ {
				for _, i := range []uint64{0, 1, uint64(n), math.MaxUint64} {
					plain.Tree(k, list, api.Block{H: h, K: i})
				}
			}
			if !slices.Equal(room, was) {
				t.Fatalf("P8.5: Tree(%d, %d items) changed the list or the room behind it", k, n)
			}
			row := plain.Peaks(k, list)
			if !slices.Equal(room, was) {
				t.Fatalf("P8.5: Peaks(%d, %d items) changed the list or the room behind it", k, n)
			}
			for i := range row[:cap(row)] {
				row[:cap(row)][i] = "written over"
			}
			if !slices.Equal(room, was) {
				t.Fatalf("P8.5: the answer of Peaks(%d, %d items) lies in the list's room", k, n)
			}
			for m := range n + 2 {
				plain.Root(k, list, uint64(m))
			}
			if !slices.Equal(room, was) {
				t.Fatalf("P8.5: Root(%d, %d items) changed the list or the room behind it", k, n)
			}
		}
	}
}

func TestPeaksAreNew(t *testing.T) {
	for n := range 41 {
		list := counted(n)
		want := peaks(32, list)
		first, second := plain.Peaks(32, list), plain.Peaks(32, list)
		for i := range first[:cap(first)] {
			first[:cap(first)][i] = "written over"
		}
		if !slices.Equal(second, want) {
			t.Fatalf("P8.5: two answers of Peaks of %d items share room", n)
		}
		if !slices.Equal(plain.Peaks(32, list), want) {
			t.Fatalf("P8.5: an answer of Peaks of %d items, written over, changed a later one", n)
		}
		if r, e := plain.Root(32, list, uint64(n)); r != root(32, list) || e != api.OK {
			t.Fatalf("P8.5: an answer of Peaks of %d items, written over, changed a later root", n)
		}
		for i := range list {
			list[i] = "another"
		}
		if !slices.Equal(second, want) {
			t.Fatalf("R3: an answer of Peaks of %d items changed with the list", n)
		}
	}
}

// What a call answers hangs on its arguments alone, whatever was asked ahead of it.
func TestOneAnswer(t *testing.T) {
	c := chance(89)
	a, b := c.items(13), c.items(13)
	for range 3 {
		for _, list := range [][]string{a, b, a[:7], b[3:]} {
			if row := plain.Peaks(5, list); !slices.Equal(row, peaks(5, list)) {
				t.Error("R11: Peaks of the same list")
			}
			if r, e := plain.Root(5, list, 6); r != root(5, list[:6]) || e != api.OK {
				t.Error("R11: Root of the same list")
			}
			if d, ok := plain.Tree(5, list, api.Block{H: 1, K: 2}); d != levels(5, list)[1].nodes[2] || !ok {
				t.Error("R11: Tree of the same list")
			}
		}
	}
}
