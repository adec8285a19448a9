package record_test

import (
	"strings"
	"testing"

	"massif/api"
	"massif/record"
)

// The document's numbers.
const (
	maxItem = 1 << 20
	nodeLen = 40
	markLen = 64
)

// chance gives numbers by a rule, the same ones in every run.
type chance uint64

func (c *chance) next() uint64 {
	*c = *c*6364136223846793005 + 1442695040888963407
	return uint64(*c)>>32 ^ uint64(*c)<<32
}

// below is a number from 0 to n - 1.
func (c *chance) below(n int) int {
	return int(c.next() % (1 << 32) * uint64(n) >> 32)
}

// text has n bytes: of any kind, or all one, which may be zero.
func (c *chance) text(n int) string {
	if c.below(3) == 0 {
		return strings.Repeat(pick(c, "\x00", "x", "\xff"), n)
	}
	row := make([]byte, n)
	for i := range row {
		row[i] = byte(c.next())
	}
	return string(row)
}

// number is any: an edge of its bytes, small, or of so many bits.
func (c *chance) number() uint64 {
	if c.below(2) == 0 {
		return pick(c, numbers()...)
	}
	return c.next() >> c.below(64)
}

// pick is one of a list.
func pick[T any](c *chance, list ...T) T {
	return list[c.below(len(list))]
}

// numbers are 0, small ones, those at the edges of 32 and of 64 bits, and some whose bytes are all unlike.
func numbers() []uint64 {
	return []uint64{0, 1, 2, 255, 256, 1<<31 - 1, 1 << 31, 1<<32 - 1, 1 << 32, 1<<32 + 5, 1 << 33, 1<<63 - 1, 1 << 63, 1<<64 - 1, 0x0102030405060708, 0xf0e0d0c0b0a09080}
}

// stepped is the sum of chapter 5, by its steps.
func stepped(text string) uint32 {
	c := uint32(0xffffffff)
	for i := range len(text) {
		c ^= uint32(text[i])
		for range 8 {
			if c&1 == 1 {
				c = c>>1 ^ 0x82f63b78
			} else {
				c >>= 1
			}
		}
	}
	return ^c
}

func four(n uint32) string {
	return string([]byte{byte(n >> 24), byte(n >> 16), byte(n >> 8), byte(n)})
}

func eight(n uint64) string {
	return four(uint32(n>>32)) + four(uint32(n))
}

func zeros(n int) string {
	return strings.Repeat("\x00", n)
}

// summed is a text with its sum behind it.
func summed(text string) string {
	return text + four(stepped(text))
}

// isSummed tells whether a text ends with the sum of what stands ahead.
func isSummed(s string) bool {
	return len(s) >= 4 && summed(s[:len(s)-4]) == s
}

// The records by the chapter's words, laid by joining texts and read by looking at one thing after the other.

func payload(item string) string {
	if len(item) > maxItem {
		return ""
	}
	return summed(four(uint32(len(item))) + item)
}

func readPayload(s string) (string, int, api.Errno) {
	if len(s) < 4 {
		return "", 0, 180
	}
	length := int(s[0])<<24 | int(s[1])<<16 | int(s[2])<<8 | int(s[3])
	if length > maxItem || len(s) < length+8 || !isSummed(s[:length+8]) {
		return "", 0, 180
	}
	return s[4 : length+4], length + 8, 0
}

func node(p uint64, digest string) string {
	if len(digest) > 32 {
		return ""
	}
	return summed(digest + zeros(32-len(digest)) + four(uint32(p)))
}

func readNode(k int, p uint64, s string) (string, api.Errno) {
	if k < 1 || k > 32 {
		return "", 70
	}
	if len(s) != nodeLen || !isSummed(s) || s[32:36] != four(uint32(p)) || s[k:32] != zeros(32-k) {
		return "", 180
	}
	return s[:k], 0
}

func mark(m record.Marker) string {
	if m.K < 1 || m.K > 32 {
		return ""
	}
	return summed("\x6d\x73\x66\x01" + string([]byte{byte(m.K)}) + zeros(3) + eight(m.Size) + eight(m.Items) + eight(m.Nodes) + four(m.Chain) + zeros(24))
}

func readMark(s string) (record.Marker, api.Errno) {
	if len(s) != markLen || !isSummed(s) || s[:4] != "msf\x01" || s[4] < 1 || s[4] > 32 || s[5:8] != zeros(3) || s[36:60] != zeros(24) {
		return record.Marker{}, 180
	}
	m := record.Marker{K: int(s[4])}
	for i := range 8 {
		m.Size = m.Size<<8 | uint64(s[8+i])
		m.Items = m.Items<<8 | uint64(s[16+i])
		m.Nodes = m.Nodes<<8 | uint64(s[24+i])
	}
	for i := range 4 {
		m.Chain = m.Chain<<8 | uint32(s[32+i])
	}
	return m, 0
}

// short is a text as it is told where a test fails.
func short(s string) string {
	if len(s) > 100 {
		return short(s[:60]) + ".."
	}
	const digits = "0123456789abcdef"
	b := &strings.Builder{}
	for i := range len(s) {
		b.WriteByte(digits[s[i]>>4])
		b.WriteByte(digits[s[i]&15])
	}
	return b.String()
}

// is holds a text against the one that it must be.
func is(t *testing.T, what, got, want string) {
	t.Helper()
	if got != want {
		t.Errorf("%s: %d bytes, %s, want %d bytes, %s", what, len(got), short(got), len(want), short(want))
	}
}

// payloadIs holds ReadPayload of a text against what it must answer.
func payloadIs(t *testing.T, what, s, item string, n int, e api.Errno) {
	t.Helper()
	gotItem, gotN, gotE := record.ReadPayload(s)
	if gotItem != item || gotN != n || gotE != e {
		t.Errorf("%s: ReadPayload of %d bytes, %s: %s, %d, %d, want %s, %d, %d", what, len(s), short(s), short(gotItem), gotN, gotE, short(item), n, e)
	}
}

// nodeIs holds ReadNode of a text against what it must answer.
func nodeIs(t *testing.T, what string, k int, p uint64, s, digest string, e api.Errno) {
	t.Helper()
	got, gotE := record.ReadNode(k, p, s)
	if got != digest || gotE != e {
		t.Errorf("%s: ReadNode(%d, %d, %s), of %d bytes: %s, %d, want %s, %d", what, k, p, short(s), len(s), short(got), gotE, short(digest), e)
	}
}

// markIs holds ReadMark of a text against what it must answer.
func markIs(t *testing.T, what, s string, m record.Marker, e api.Errno) {
	t.Helper()
	got, gotE := record.ReadMark(s)
	if got != m || gotE != e {
		t.Errorf("%s: ReadMark of %d bytes, %s: %+v, %d, want %+v, %d", what, len(s), short(s), got, gotE, m, e)
	}
}

// turned is a text with the bits of mask turned in one byte.
func turned(s string, at int, mask byte) string {
	row := []byte(s)
	row[at] ^= mask
	return string(row)
}

// resummed is a record with other bytes from at on, and a sum that is right.
func resummed(s string, at int, other string) string {
	return summed(s[:at] + other + s[at+len(other):len(s)-4])
}
