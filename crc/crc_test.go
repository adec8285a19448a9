package crc_test

import (
	"hash/crc32"
	"slices"
	"strings"
	"testing"

	"massif/crc"
)

const ones = 0xffffffff

// stepped is the chapter's steps, bit by bit, from the sum of what stands ahead.
func stepped(sum uint32, text string) uint32 {
	c := sum ^ ones
	for _, b := range []byte(text) {
		c ^= uint32(b)
		for range 8 {
			if c&1 == 1 {
				c = c>>1 ^ 0x82f63b78
			} else {
				c >>= 1
			}
		}
	}
	return c ^ ones
}

// library is the library's sum, which the program itself may not use.
func library(text string) uint32 {
	return crc32.Checksum([]byte(text), crc32.MakeTable(crc32.Castagnoli))
}

// chance gives numbers by a rule, the same ones in every run.
type chance uint64

func (c *chance) next() uint32 {
	*c = *c*6364136223846793005 + 1442695040888963407
	return uint32(*c >> 32)
}

// text is n bytes by the rule.
func (c *chance) text(n int) string {
	raw := make([]byte, n)
	for i := range raw {
		raw[i] = byte(c.next() >> 20)
	}
	return string(raw)
}

// texts are the empty one, zeros and FFs of many lengths, each byte alone, the bytes from 0 on, and texts by the rule.
func texts() []string {
	all := make([]byte, 256)
	for i := range all {
		all[i] = byte(i)
	}
	list := []string{"123456789", "the quick brown fox", "äöü\x00€", string(all)}
	for i := range all {
		list = append(list, string(all[i:i+1]), string(all[:i]))
	}
	turn := chance(1)
	for n := range 100 {
		list = append(list, strings.Repeat("\x00", n), strings.Repeat("\xff", n), turn.text(n), turn.text(n))
	}
	return append(list, turn.text(255), turn.text(256), turn.text(257), turn.text(4096), turn.text(65537))
}

// sums are those at the edges, with one bit of 32, and others by the rule.
func sums() []uint32 {
	list := []uint32{0, 1, 5, 0x80000000, 0x7fffffff, ones - 1, ones, 0x82f63b78, 0x1edc6f41, 0xe3069283}
	for bit := range 32 {
		list = append(list, 1<<bit, ones^1<<bit)
	}
	turn := chance(2)
	for range 40 {
		list = append(list, turn.next())
	}
	return list
}

// turned is text with the bits of word turned, from the bit from on; each byte's lowest bit is its first.
func turned(text string, from int, word uint32) string {
	raw := []byte(text)
	for bit := range 32 {
		if word>>bit&1 == 1 {
			raw[(from+bit)/8] ^= 1 << ((from + bit) % 8)
		}
	}
	return string(raw)
}

// rank tells how many of the words are no xor of others.
func rank(words []uint32) int {
	words, found := slices.Clone(words), 0
	for bit := range 32 {
		at := slices.IndexFunc(words[found:], func(word uint32) bool { return word>>bit&1 == 1 })
		if at < 0 {
			continue
		}
		words[found], words[found+at] = words[found+at], words[found]
		for i := range words {
			if i != found && words[i]>>bit&1 == 1 {
				words[i] ^= words[found]
			}
		}
		found++
	}
	return found
}

func TestExamples(t *testing.T) {
	up := make([]byte, 32)
	for i := range up {
		up[i] = byte(i)
	}
	for _, example := range []struct {
		promise, call string
		got, want     uint32
	}{
		{"P5.1", "Of()", crc.Of(), 0},
		{"P5.1", "Of(no list)", crc.Of([]string(nil)...), 0},
		{"P5.1", "Of(empty list)", crc.Of([]string{}...), 0},
		{"P5.1", `Of("")`, crc.Of(""), 0},
		{"P5.2", `Of("", "", "")`, crc.Of("", "", ""), 0},
		{"P5.1", `Of("123456789")`, crc.Of("123456789"), 0xe3069283},
		{"P5.2", `Of("1234", "", "56789")`, crc.Of("1234", "", "56789"), 0xe3069283},
		{"P5.2", `More(Of("12345"), "6789")`, crc.More(crc.Of("12345"), "6789"), 0xe3069283},
		{"P5.1", `More(0, "123456789")`, crc.More(0, "123456789"), 0xe3069283},
		{"P5.1", "Of(one zero byte)", crc.Of("\x00"), 0x527d5351},
		{"P5.1", "Of(32 zero bytes)", crc.Of(strings.Repeat("\x00", 32)), 0x8a9136aa},
		{"P5.1", "Of(32 bytes FF)", crc.Of(strings.Repeat("\xff", 32)), 0x62a8ab43},
		{"P5.1", "Of(0 to 31)", crc.Of(string(up)), 0x46dd794e},
		{"P5.1", `Of("a")`, crc.Of("a"), 0xc1d04330},
		{"P5.1", `More(FFFFFFFF, "")`, crc.More(ones, ""), ones},
		{"P5.1", `More(0, "")`, crc.More(0, ""), 0},
	} {
		if example.got != example.want {
			t.Errorf("%s: %s: %08x, want %08x", example.promise, example.call, example.got, example.want)
		}
	}
}

func TestSteps(t *testing.T) {
	for _, text := range texts() {
		want := stepped(0, text)
		if want != library(text) {
			t.Fatalf("the test's own steps: %d bytes", len(text))
		}
		if got := crc.Of(text); got != want {
			t.Errorf("P5.1: Of(%.40q), %d bytes: %08x, want %08x", text, len(text), got, want)
		}
		if got := crc.More(0, text); got != want {
			t.Errorf("P5.1: More(0, %.40q), %d bytes: %08x, want %08x", text, len(text), got, want)
		}
	}
}

func TestMoreOfAnySum(t *testing.T) {
	for _, sum := range sums() {
		if got := crc.More(sum, ""); got != sum {
			t.Errorf("P5.1: More(%08x, nothing): %08x", sum, got)
		}
		for _, text := range texts() {
			if len(text) > 300 {
				continue
			}
			if got, want := crc.More(sum, text), stepped(sum, text); got != want {
				t.Errorf("P5.1: More(%08x, %.40q), %d bytes: %08x, want %08x", sum, text, len(text), got, want)
			}
		}
	}
}

func TestLong(t *testing.T) {
	turn := chance(3)
	text := turn.text(1<<20 + 3)
	want := library(text)
	if got := crc.Of(text); got != want {
		t.Errorf("P5.1: of %d bytes: %08x, want %08x", len(text), got, want)
	}
	if got := crc.Of(strings.Split(text, "\x00")...); got != library(strings.ReplaceAll(text, "\x00", "")) {
		t.Errorf("P5.2: of %d bytes in some thousand parts: %08x", len(text), got)
	}
}

func TestZerosCount(t *testing.T) {
	for _, text := range []string{"", "a", "\x00", "123456789", "\xff\xff\xff\xff"} {
		seen := map[uint32]int{}
		for n := range 1000 {
			ahead, behind := strings.Repeat("\x00", n)+text, text+strings.Repeat("\x00", n)
			if crc.Of(ahead) != library(ahead) || crc.Of(behind) != library(behind) {
				t.Fatalf("P5.1: %q with %d zeros", text, n)
			}
			if before, ok := seen[crc.Of(ahead)]; ok {
				t.Errorf("P5.1: %q with %d zeros ahead and with %d: one sum", text, before, n)
			}
			seen[crc.Of(ahead)] = n
		}
	}
}

func TestTwoAndThreeParts(t *testing.T) {
	for _, text := range texts() {
		if len(text) > 70 {
			continue
		}
		want := stepped(0, text)
		for i := range len(text) + 1 {
			a, b := text[:i], text[i:]
			if crc.Of(a, b) != want || crc.Of("", a, "", b, "") != want {
				t.Errorf("P5.2: Of(%q, %q)", a, b)
			}
			if crc.More(crc.Of(a), b) != want || crc.More(crc.More(0, a), b) != want {
				t.Errorf("P5.2: More(Of(%q), %q)", a, b)
			}
			for _, j := range []int{0, 1, len(b) / 2, len(b)} {
				if j <= len(b) && crc.Of(a, b[:j], b[j:]) != want {
					t.Errorf("P5.2: Of(%q, %q, %q)", a, b[:j], b[j:])
				}
			}
		}
	}
}

func TestManyParts(t *testing.T) {
	turn := chance(4)
	for n := range 200 {
		text := turn.text(n)
		var parts []string
		for rest := text; len(rest) > 0; {
			cut := min(int(turn.next()>>8%5), len(rest)) // 0 too: an empty part
			parts, rest = append(parts, rest[:cut]), rest[cut:]
		}
		if got := crc.Of(parts...); got != stepped(0, text) {
			t.Errorf("P5.2: %d bytes in %d parts: %08x", n, len(parts), got)
		}
	}
	bytes := make([]string, 3000)
	for i := range bytes {
		bytes[i] = turn.text(1)
	}
	if crc.Of(bytes...) != library(strings.Join(bytes, "")) {
		t.Errorf("P5.2: each byte in a part of its own")
	}
}

func TestMoreInParts(t *testing.T) {
	turn := chance(5)
	for _, sum := range sums() {
		for n := range 40 {
			text := turn.text(n)
			for i := range n + 1 {
				if got := crc.More(crc.More(sum, text[:i]), text[i:]); got != stepped(sum, text) {
					t.Errorf("P5.2: More(More(%08x, %q), %q): %08x", sum, text[:i], text[i:], got)
				}
			}
		}
	}
}

func TestBurst(t *testing.T) {
	turn := chance(6)
	for n := 4; n <= 20; n++ {
		text := turn.text(n)
		was := crc.Of(text)
		for from := range 8*n - 31 {
			words := []uint32{1, 0x80000000, 0x80000001, ones, 0x82f63b78, 0x1edc6f41, 0x05ec76f1}
			for range 100 {
				words = append(words, turn.next())
			}
			for _, word := range words {
				if word != 0 && crc.Of(turned(text, from, word)) == was {
					t.Errorf("P5.3: %q with %08x turned from the bit %d on", text, word, from)
				}
			}
		}
	}
}

// Sums are linear (P5.4), so if the sums of 32 bits turned one by one are no xor of each other, no row of these bits leaves the sum as it was.
func TestBurstOfAnyBits(t *testing.T) {
	turn := chance(7)
	for _, n := range []int{4, 5, 8, 64, 300} {
		text := turn.text(n)
		was := crc.Of(text)
		for from := range 8*n - 31 {
			turns := make([]uint32, 32)
			for bit := range turns {
				turns[bit] = crc.Of(turned(text, from, 1<<bit)) ^ was
			}
			if rank(turns) != 32 {
				t.Errorf("P5.3: of %d bytes, some of the 32 bits from %d on", n, from)
			}
		}
	}
}

func TestBurstOfShortTexts(t *testing.T) {
	seen := map[uint32]int{}
	for word := range 1 << 16 {
		sum := crc.Of(string([]byte{byte(word), byte(word >> 8)}))
		if before, ok := seen[sum]; ok {
			t.Fatalf("P5.3: two bytes, %04x and %04x: one sum", before, word)
		}
		seen[sum] = word
	}
	clear(seen)
	for b := range 256 {
		sum := crc.Of(string([]byte{byte(b)}))
		if before, ok := seen[sum]; ok {
			t.Fatalf("P5.3: one byte, %02x and %02x: one sum", before, b)
		}
		seen[sum] = b
	}
}

func TestLinear(t *testing.T) {
	turn := chance(8)
	for n := range 300 {
		x, y, z := turn.text(n), turn.text(n), turn.text(n)
		for _, three := range [][3]string{{x, y, z}, {x, x, z}, {x, y, y}, {x, y, strings.Repeat("\x00", n)}, {x, strings.Repeat("\xff", n), z}} {
			xor := make([]byte, n)
			for i := range xor {
				xor[i] = three[0][i] ^ three[1][i] ^ three[2][i]
			}
			want := crc.Of(three[0]) ^ crc.Of(three[1]) ^ crc.Of(three[2])
			if got := crc.Of(string(xor)); got != want {
				t.Errorf("P5.4: of the xor of %.40q: %08x, want %08x", three, got, want)
			}
		}
	}
}

// back is the four bytes that, behind a text of the sum had, give it the sum wanted: the 32 steps are gone back one by one.
func back(had, wanted uint32) string {
	c := wanted ^ ones
	for range 32 {
		if c>>31 == 1 { // only the polynomial has this bit, so it was laid in at this step
			c = (c^0x82f63b78)<<1 | 1
		} else {
			c <<= 1
		}
	}
	c ^= had ^ ones
	return string([]byte{byte(c), byte(c >> 8), byte(c >> 16), byte(c >> 24)})
}

func TestBack(t *testing.T) {
	turn := chance(9)
	for _, text := range texts() {
		if len(text) > 100 {
			continue
		}
		for _, sum := range sums() {
			four := back(stepped(0, text), sum)
			if got := crc.Of(text, four); got != sum {
				t.Fatalf("P5.5: Of(%q, %q): %08x, want %08x", text, four, got, sum)
			}
			if got := crc.More(crc.Of(text), four); got != sum {
				t.Fatalf("P5.5: More(Of(%q), %q): %08x, want %08x", text, four, got, sum)
			}
			if other := turned(four, 0, turn.next()|1); crc.Of(text, other) == sum {
				t.Errorf("P5.5: behind %q both %q and %q give %08x", text, four, other, sum)
			}
		}
	}
}

// The sums of 32 bits that are no xor of each other have each xor once: so each sum is that of one row of four bytes, and of one only.
func TestBackIsOne(t *testing.T) {
	for _, text := range texts() {
		if len(text) > 300 {
			continue
		}
		zeros := "\x00\x00\x00\x00"
		was := crc.Of(text, zeros)
		turns := make([]uint32, 32)
		for bit := range turns {
			turns[bit] = crc.Of(text, turned(zeros, 0, 1<<bit)) ^ was
		}
		if rank(turns) != 32 {
			t.Errorf("P5.5: behind %.40q: two rows of four bytes give one sum", text)
		}
	}
}

func TestMemory(t *testing.T) {
	list := []string{"12", "", "345", "6789", "room", "", "more room"}
	for n := range len(list) + 1 {
		had := slices.Clone(list)
		first, again := crc.Of(list[:n]...), crc.Of(list[:n:n]...)
		if !slices.Equal(list, had) {
			t.Fatalf("P5.6: the list of %d parts, or the room behind it, is %q", n, list)
		}
		want := stepped(0, strings.Join(had[:n], ""))
		if first != want || again != want {
			t.Errorf("P5.6: of %d parts, with room behind them and without: %08x and %08x, want %08x", n, first, again, want)
		}
	}
}

func TestOneAnswer(t *testing.T) {
	for _, text := range texts() {
		first := crc.Of(text)
		crc.More(first, "other")
		crc.Of("other", text)
		if crc.Of(text) != first {
			t.Errorf("R11: %.40q: another sum the second time", text)
		}
	}
}
