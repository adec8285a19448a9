package hash_test

import (
	"crypto/sha256"
	"encoding/hex"
	"math"
	"math/big"
	"slices"
	"strings"
	"testing"

	"massif/api"
	"massif/hash"
)

// chance gives numbers by a rule, the same ones in every run.
type chance uint64

func (c *chance) next() uint64 {
	*c = *c*6364136223846793005 + 1442695040888963407
	return uint64(*c)>>32 ^ uint64(*c)<<32
}

// below is a number from 0 to n - 1.
func (c *chance) below(n int) int {
	return int(c.next() % (1 << 32) * uint64(n) >> 32)
}

// text has n bytes of any kind, those that are no UTF-8 among them.
func (c *chance) text(n int) string {
	row := make([]byte, n)
	for i := range row {
		row[i] = byte(c.next())
	}
	return string(row)
}

// peaks are n texts of any lengths, "" among them.
func (c *chance) peaks(n int) []string {
	list := make([]string, n)
	for i := range list {
		list[i] = c.text([]int{0, 1, 8, 31, 32, 33, c.below(100)}[c.below(7)])
	}
	return list
}

// strengths go from below the least to above the greatest one, and to the ends of int; some are strengths by their lowest bits alone.
func strengths() []int {
	list := []int{math.MinInt, math.MinInt + 1, math.MinInt32, math.MaxInt32, math.MaxInt - 1, math.MaxInt}
	for k := -40; k <= 80; k++ {
		list = append(list, k, k+1<<8, k-1<<8, k+1<<32, k-1<<32)
	}
	slices.Sort(list)
	return slices.Compact(list)
}

// kept is how many bytes a digest has by the chapter's words.
func kept(k int) int {
	if k < 1 {
		return 1
	}
	if k > 32 {
		return 32
	}
	return k
}

// digest is the library's sum of a text, cut.
func digest(k int, text string) string {
	sum := sha256.Sum256([]byte(text))
	return string(sum[:kept(k)])
}

// eight is n in eight bytes, the highest first, by numbers without a bound.
func eight(n uint64) string {
	return string(new(big.Int).SetUint64(n).FillBytes(make([]byte, 8)))
}

// bagged is the chapter's words as they stand: the first one, and what the others are bagged to.
func bagged(k int, peaks []string) string {
	switch len(peaks) {
	case 0:
		return ""
	case 1:
		return peaks[0]
	}
	return digest(k, "\x02"+peaks[0]+bagged(k, peaks[1:]))
}

func root(k int, n uint64, peaks []string) string {
	return digest(k, "\x03"+eight(n)+bagged(k, peaks))
}

// texts have all lengths up to three blocks of a sum, all single bytes, the other kinds' beginnings, and one of MaxItem bytes.
func texts() []string {
	c := chance(7)
	list := []string{"", "a", "ab", "\x00", "\x01", "\x02", "\x03", "\x03\x00\x00\x00\x00\x00\x00\x00\x00", "é", "\xff\xfe"}
	for n := range 200 {
		list = append(list, c.text(n))
	}
	for b := range 256 {
		list = append(list, string([]byte{byte(b)}))
	}
	return append(list, strings.Repeat("x", api.MaxItem))
}

// numbers stand at both sides of every power of two (so of every power of 2^8), at both ends, and by the rule.
func numbers() []uint64 {
	list := []uint64{0, 258, 0x0102030405060708, math.MaxUint64, math.MaxUint64 - 1}
	for h := range 64 {
		power := uint64(1) << h
		list = append(list, power-1, power, power+1, math.MaxUint64-power)
	}
	c := chance(8)
	for range 1000 {
		list = append(list, c.next()>>c.below(64))
	}
	return list
}

func unhex(t *testing.T, digits string) string {
	t.Helper()
	row, err := hex.DecodeString(strings.ReplaceAll(digits, " ", ""))
	if err != nil {
		t.Fatal(err)
	}
	return string(row)
}

func TestCheck(t *testing.T) {
	for _, k := range strengths() {
		want := api.ErrStrength
		if k >= 1 && k <= 32 {
			want = api.OK
		}
		if e := hash.Check(k); e != want {
			t.Errorf("P7.1: Check(%d) = %d, want %d", k, e, want)
		}
	}
	if hash.Check(0) != 70 || hash.Check(33) != 70 || hash.Check(1) != 0 || hash.Check(32) != 0 {
		t.Error("P7.1: Check at the bounds")
	}
}

func TestTextsByHand(t *testing.T) {
	for _, c := range []struct{ name, text, want string }{
		{`LeafText("")`, hash.LeafText(""), "00"},
		{`LeafText("a")`, hash.LeafText("a"), "00 61"},
		{`LeafText of two bytes`, hash.LeafText("\xff\x00"), "00 ff 00"},
		{`NodeText("", "")`, hash.NodeText("", ""), "01"},
		{`NodeText("a", "bc")`, hash.NodeText("a", "bc"), "01 61 62 63"},
		{`NodeText("bc", "")`, hash.NodeText("bc", ""), "01 62 63"},
		{`BagText("", "")`, hash.BagText("", ""), "02"},
		{`BagText("a", "bc")`, hash.BagText("a", "bc"), "02 61 62 63"},
		{`BagText("", "b")`, hash.BagText("", "b"), "02 62"},
		{`RootText(0, "")`, hash.RootText(0, ""), "03 00 00 00 00 00 00 00 00"},
		{`RootText(258, "x")`, hash.RootText(258, "x"), "03 00 00 00 00 00 00 01 02 78"},
		{`RootText of all eight bytes`, hash.RootText(0x0102030405060708, ""), "03 01 02 03 04 05 06 07 08"},
		{`RootText(2^64 - 1, "")`, hash.RootText(math.MaxUint64, ""), "03 ff ff ff ff ff ff ff ff"},
	} {
		if want := unhex(t, c.want); c.text != want {
			t.Errorf("P7.2: %s = %x, want %x", c.name, c.text, want)
		}
	}
	if n := len(hash.RootText(0, "")); n != 9 {
		t.Errorf("P7.2: RootText of 0 and none has %d bytes, want 9", n)
	}
}

func TestTexts(t *testing.T) {
	list := texts()
	for i, a := range list {
		b := list[(i*7+3)%len(list)]
		if hash.LeafText(a) != "\x00"+a {
			t.Errorf("P7.2: LeafText of %d bytes", len(a))
		}
		if hash.NodeText(a, b) != "\x01"+a+b {
			t.Errorf("P7.2: NodeText of %d and %d bytes", len(a), len(b))
		}
		if hash.BagText(a, b) != "\x02"+a+b {
			t.Errorf("P7.2: BagText of %d and %d bytes", len(a), len(b))
		}
	}
	for i, n := range numbers() {
		for _, d := range []string{"", "x", list[i%len(list)]} {
			if text := hash.RootText(n, d); text != "\x03"+eight(n)+d {
				t.Errorf("P7.2: RootText(%d, %d bytes) begins with %x", n, len(d), text[:min(len(text), 9)])
			}
		}
	}
}

func TestDigestsByHand(t *testing.T) {
	whole := unhex(t, "6e340b9cffb37a989ca544e6bb780a2c78901d3fb33738768511a30617afa01d")
	for _, c := range []struct {
		k, n int
	}{{32, 32}, {4, 4}, {1, 1}, {0, 1}, {-1, 1}, {31, 31}, {33, 32}, {64, 32}} {
		if d := hash.Leaf(c.k, ""); d != whole[:c.n] {
			t.Errorf("P7.3: Leaf(%d, none) = %x, want %x", c.k, d, whole[:c.n])
		}
		if d := hash.Of(c.k, "\x00"); d != whole[:c.n] {
			t.Errorf("P7.3: Of(%d, 00) = %x, want %x", c.k, d, whole[:c.n])
		}
	}
	if d := hash.Of(32, "abc"); d != unhex(t, "ba7816bf8f01cfea414140de5dae2223b00361a396177a9cb410ff61f20015ad") {
		t.Errorf("P7.3: Of(32, abc) = %x", d)
	}
	// By sha256sum of 01 61 62.
	if d := hash.Node(32, "a", "b"); d != unhex(t, "170404e05440f45062c423052d5adcfb2c9d546ecfcb2022d6c34af474dbaf18") {
		t.Errorf("P7.3: Node(32, a, b) = %x", d)
	}
}

func TestDigests(t *testing.T) {
	list := texts()
	list = list[:len(list)-1] // not the great one at every strength
	for i, a := range list {
		b := list[(i*5+1)%len(list)]
		for k := -3; k <= 36; k++ {
			if hash.Of(k, a) != digest(k, a) {
				t.Fatalf("P7.3: Of(%d, %x) = %x", k, a, hash.Of(k, a))
			}
			if hash.Leaf(k, a) != digest(k, "\x00"+a) {
				t.Fatalf("P7.3: Leaf(%d, %x) = %x", k, a, hash.Leaf(k, a))
			}
			if hash.Node(k, a, b) != digest(k, "\x01"+a+b) {
				t.Fatalf("P7.3: Node(%d, %x, %x) = %x", k, a, b, hash.Node(k, a, b))
			}
		}
	}
	great := strings.Repeat("x", api.MaxItem)
	if hash.Of(32, great) != digest(32, great) || hash.Leaf(32, great) != digest(32, "\x00"+great) || hash.Node(32, great, "y") != digest(32, "\x01"+great+"y") {
		t.Error("P7.3: digests of MaxItem bytes")
	}
}

func TestBaggedByHand(t *testing.T) {
	of := func(text string) string { return digest(8, text) }
	for _, c := range []struct {
		name  string
		peaks []string
		want  string
	}{
		{"no list", nil, ""},
		{"an empty list", []string{}, ""},
		{"one", []string{"x"}, "x"},
		{"one of no bytes", []string{""}, ""},
		{"one of more than k bytes", []string{"longer than eight bytes"}, "longer than eight bytes"},
		{"two", []string{"a", "b"}, of("\x02ab")},
		{"three", []string{"a", "b", "c"}, of("\x02a" + of("\x02bc"))},
		{"four", []string{"a", "b", "c", "d"}, of("\x02a" + of("\x02b"+of("\x02cd")))},
		{"two of no bytes", []string{"", ""}, of("\x02")},
		{"none behind two", []string{"a", "b", ""}, of("\x02a" + of("\x02b"))},
	} {
		if d := hash.Bagged(8, c.peaks); d != c.want {
			t.Errorf("P7.4: Bagged of %s = %x, want %x", c.name, d, c.want)
		}
	}
}

func TestBagged(t *testing.T) {
	c := chance(74)
	for _, k := range strengths() {
		for range 3 {
			one := c.text(c.below(70))
			if d := hash.Bagged(k, []string{one}); d != one {
				t.Errorf("P7.4: Bagged(%d, one of %d bytes) is not itself", k, len(one))
			}
		}
	}
	for n := range 66 {
		for k := -2; k <= 35; k++ {
			peaks := c.peaks(n)
			if d := hash.Bagged(k, peaks); d != bagged(k, peaks) {
				t.Fatalf("P7.4: Bagged(%d, %x) = %x, want %x", k, peaks, d, bagged(k, peaks))
			}
		}
	}
}

func TestRootByHand(t *testing.T) {
	leaf := func(item string) string { return digest(32, "\x00"+item) }
	one := digest(32, "\x03\x00\x00\x00\x00\x00\x00\x00\x01"+leaf("a"))
	if d := hash.Root(32, 1, []string{hash.Leaf(32, "a")}); d != one {
		t.Errorf("P7.5: the root of one item = %x, want %x", d, one)
	}
	pair := digest(32, "\x01"+leaf("a")+leaf("b"))
	three := digest(32, "\x03\x00\x00\x00\x00\x00\x00\x00\x03"+digest(32, "\x02"+pair+leaf("c")))
	peaks := []string{hash.Node(32, hash.Leaf(32, "a"), hash.Leaf(32, "b")), hash.Leaf(32, "c")}
	if d := hash.Root(32, 3, peaks); d != three {
		t.Errorf("P7.5: the root of a, b, c = %x, want %x", d, three)
	}
	none := digest(4, "\x03\x00\x00\x00\x00\x00\x00\x00\x00")
	if d := hash.Root(4, 0, nil); d != none {
		t.Errorf("P7.5: the root of 0 = %x, want %x", d, none)
	}
}

func TestRoot(t *testing.T) {
	c := chance(75)
	list := numbers()
	for i, n := range list {
		peaks := c.peaks(i % 9) // their count need not go with n
		k := i%40 - 3
		if d := hash.Root(k, n, peaks); d != root(k, n, peaks) {
			t.Fatalf("P7.5: Root(%d, %d, %x) = %x, want %x", k, n, peaks, d, root(k, n, peaks))
		}
	}
	for n := range 66 {
		peaks := c.peaks(n)
		for k := -2; k <= 35; k++ {
			if d := hash.Root(k, uint64(n), peaks); d != root(k, uint64(n), peaks) {
				t.Fatalf("P7.5: Root(%d, %d, %x) = %x", k, n, peaks, d)
			}
		}
	}
}

// Of one text: Bagged's text hangs on the strength from three peaks on, and Root's from two on.
func TestBeginnings(t *testing.T) {
	c := chance(76)
	for range 40 {
		a, b, n := c.text(c.below(70)), c.text(c.below(70)), c.next()>>c.below(64)
		for name, of := range map[string]func(k int) string{
			"Of":     func(k int) string { return hash.Of(k, a) },
			"Leaf":   func(k int) string { return hash.Leaf(k, a) },
			"Node":   func(k int) string { return hash.Node(k, a, b) },
			"Bagged": func(k int) string { return hash.Bagged(k, []string{a, b}) },
			"Root":   func(k int) string { return hash.Root(k, n, []string{a}) },
		} {
			last := ""
			for _, k := range strengths() {
				d := of(k)
				if len(d) != kept(k) {
					t.Fatalf("P7.6: %s of strength %d has %d bytes, want %d", name, k, len(d), kept(k))
				}
				if !strings.HasPrefix(d, last) {
					t.Fatalf("P7.6: %s of strength %d = %x does not begin with %x of the strength ahead", name, k, d, last)
				}
				last = d
			}
		}
	}
}

func TestFirstBytesDiffer(t *testing.T) {
	c := chance(77)
	for i := range 300 {
		a, b := c.text(i%40), c.text(c.below(40))
		n := c.next() >> c.below(64)
		firsts := map[byte]int{}
		for _, text := range []string{hash.LeafText(a), hash.LeafText(a + b), hash.NodeText(a, b), hash.BagText(a, b), hash.RootText(n, a), hash.RootText(n, a+b)} {
			if text == "" {
				t.Fatal("P7.6: a text without a first byte")
			}
			firsts[text[0]]++
		}
		if firsts[0] != 2 || firsts[1] != 1 || firsts[2] != 1 || firsts[3] != 2 {
			t.Fatalf("P7.6: first bytes of %x and %x: %v", a, b, firsts)
		}
		if digests := []string{hash.Leaf(32, a+b), hash.Node(32, a, b), hash.Bagged(32, []string{a, b}), hash.Root(32, n, []string{a + b})}; len(slices.Compact(slices.Sorted(slices.Values(digests)))) != 4 {
			t.Fatalf("P7.6: two kinds have one digest of the parts %x and %x", a, b)
		}
	}
	if hash.NodeText("x", "yz") != hash.NodeText("xy", "z") {
		t.Error("P7.6: parts are laid one behind the other, with nothing between")
	}
}

func TestPeaksStay(t *testing.T) {
	c := chance(78)
	for n := range 40 {
		for _, k := range []int{math.MinInt, 0, 1, 8, 32, 33, math.MaxInt} {
			room := c.peaks(n + 5)
			was := slices.Clone(room)
			peaks := room[:n]
			hash.Bagged(k, peaks)
			if !slices.Equal(room, was) {
				t.Fatalf("P7.7: Bagged(%d, %d peaks) changed the peaks or the room behind them", k, n)
			}
			hash.Root(k, uint64(n), peaks)
			if !slices.Equal(room, was) {
				t.Fatalf("P7.7: Root(%d, %d peaks) changed the peaks or the room behind them", k, n)
			}
		}
	}
}

// What was answered stays, whatever is done to the list of peaks later.
func TestAnswersStay(t *testing.T) {
	peaks := []string{"a", "b", "c"}
	bag, one, top := hash.Bagged(8, peaks), hash.Bagged(8, peaks[2:]), hash.Root(8, 3, peaks)
	peaks[0], peaks[2] = "y", "z"
	if bag != bagged(8, []string{"a", "b", "c"}) || one != "c" || top != root(8, 3, []string{"a", "b", "c"}) {
		t.Error("R3: an answer changed with the list of peaks")
	}
	if hash.Bagged(8, peaks) != bagged(8, peaks) || hash.Root(8, 3, peaks) != root(8, 3, peaks) {
		t.Error("R11: an answer is not that of its arguments")
	}
	if hash.Bagged(8, []string{"a", "b", "c"}) != bag || hash.Root(8, 3, []string{"a", "b", "c"}) != top {
		t.Error("R11: the same arguments have another answer")
	}
}

func TestEveryCallEnds(t *testing.T) {
	defer func() {
		if p := recover(); p != nil {
			t.Errorf("P7.7: panic: %v", p)
		}
	}()
	lists := [][]string{nil, {}, {""}, {"", ""}, {"", "x", ""}, make([]string, 100)}
	for _, k := range strengths() {
		hash.Check(k)
		for _, s := range []string{"", "x", "\xff"} {
			hash.Of(k, s)
			hash.Leaf(k, s)
			hash.Node(k, s, "")
			hash.Node(k, "", s)
		}
		for _, peaks := range lists {
			hash.Bagged(k, peaks)
			hash.Root(k, math.MaxUint64, peaks)
		}
	}
	// Far more peaks than parts may be nested in one another.
	many := make([]string, 1<<18)
	want := many[0]
	for range len(many) - 1 {
		want = digest(8, "\x02"+want)
	}
	if hash.Bagged(8, many) != want {
		t.Errorf("P7.4: Bagged of %d peaks of no bytes", len(many))
	}
}
