package record_test

import (
	"math"
	"strings"
	"testing"

	"massif/record"
)

// digests are of 0 to 32 bytes: zeros, such as end with them or begin with them, and by chance.
func digests() []string {
	c := chance(183)
	list := []string{"", "x", "x\x00", "\x00x", "\xff", "x\x00y"}
	for n := range 33 {
		list = append(list, zeros(n), strings.Repeat("\xff", n), c.text(n), c.text(n))
	}
	return append(list, zeros(31)+"x", "x"+zeros(31), zeros(30)+"x", zeros(30)+"x\x00")
}

func TestNodeByHand(t *testing.T) {
	up := make([]byte, 32)
	for i := range up {
		up[i] = byte(i)
	}
	for _, x := range []struct {
		p      uint64
		digest string
		want   string
	}{
		{5, "x", "x" + zeros(31) + "\x00\x00\x00\x05" + "\xc8\xa3\x7b\xe6"},
		{1<<32 + 5, "x", "x" + zeros(31) + "\x00\x00\x00\x05" + "\xc8\xa3\x7b\xe6"},
		{1<<32 - 1, string(up), string(up) + "\xff\xff\xff\xff" + "\x31\x3c\x76\x4b"},
		{1<<64 - 1, string(up), string(up) + "\xff\xff\xff\xff" + "\x31\x3c\x76\x4b"},
	} {
		is(t, "P18.1: Node", record.Node(x.p, x.digest), x.want)
		nodeIs(t, "P18.2", max(1, len(x.digest)), x.p, x.want, x.digest, 0)
	}
}

func TestNodeOfAllDigests(t *testing.T) {
	for _, digest := range digests() {
		for _, p := range numbers() {
			s := record.Node(p, digest)
			is(t, "P18.1: Node", s, node(p, digest))
			if len(s) != nodeLen {
				t.Errorf("P18.1: a node's record has %d bytes", len(s))
			}
		}
	}
	for _, n := range []int{33, 34, 36, 40, 64, 1000} {
		for _, p := range numbers() {
			is(t, "P18.1: Node of a digest above 32 bytes", record.Node(p, zeros(n)), "")
			is(t, "P18.1: Node of a digest above 32 bytes", record.Node(p, strings.Repeat("d", n)), "")
		}
	}
}

// strengths are all, those beside them, and the ends of int.
func strengths() []int {
	list := []int{math.MinInt, math.MinInt + 1, -1 << 31, -32, -1, 256, 257, 1 << 31, 1<<32 + 1, math.MaxInt - 1, math.MaxInt}
	for k := range 36 {
		list = append(list, k)
	}
	return list
}

func TestReadNodeAtAllStrengths(t *testing.T) {
	for _, digest := range digests() {
		s := record.Node(7, digest)
		own := len(strings.TrimRight(digest, "\x00")) // less is not all of it
		for _, k := range strengths() {
			switch {
			case k < 1 || k > 32:
				nodeIs(t, "P18.1: no strength", k, 7, s, "", 70)
			case k < own:
				nodeIs(t, "P18.1: too small a strength", k, 7, s, "", 180)
			default:
				nodeIs(t, "P18.1: a strength", k, 7, s, (digest + zeros(32))[:k], 0)
			}
		}
		if len(digest) > 0 {
			nodeIs(t, "P18.2: the digest's own strength", len(digest), 7, s, digest, 0)
		}
	}
}

func TestReadNodeAtPlaces(t *testing.T) {
	for _, digest := range []string{"x", "xy", zeros(32), strings.Repeat("d", 32)} {
		k := len(digest)
		for _, p := range numbers() {
			s := record.Node(p, digest)
			for _, q := range append(numbers(), p^1, p^1<<8, p^1<<16, p^1<<24, p^1<<31) {
				if uint32(p) == uint32(q) {
					nodeIs(t, "P18.1: a place with these lowest 32 bits", k, q, s, digest, 0)
				} else {
					nodeIs(t, "P18.1: another place", k, q, s, "", 180)
				}
			}
			for bit := 32; bit < 64; bit++ {
				nodeIs(t, "P18.1: a higher bit of the place", k, p^1<<bit, s, digest, 0)
			}
		}
	}
}

func TestReadNodeOfOtherLengths(t *testing.T) {
	for _, digest := range []string{"x", zeros(1), "xy", strings.Repeat("d", 32)} {
		k := len(digest)
		s := record.Node(5, digest)
		for n := range nodeLen {
			nodeIs(t, "P18.3: cut", k, 5, s[:n], "", 180)
			nodeIs(t, "P18.3: cut ahead", k, 5, s[nodeLen-n:], "", 180)
		}
		for _, behind := range []string{"\x00", "x", zeros(4), s} {
			nodeIs(t, "P18.1: more bytes", k, 5, s+behind, "", 180)
		}
		nodeIs(t, "P18.1: one byte less, and a right sum", k, 5, summed(s[:35]), "", 180)
		nodeIs(t, "P18.1: one byte more, and a right sum", k, 5, summed(s[:36]+"\x00"), "", 180)
		nodeIs(t, "P18.1: one byte more, and a right sum", k, 5, summed(s[:32]+"\x00"+s[32:36]), "", 180)
	}
	for _, n := range []int{0, 1, 39, 40, 41, 80} {
		nodeIs(t, "P18.1: zeros", 1, 0, zeros(n), "", 180)
	}
}

func TestReadNodeOfBytesBehindTheStrength(t *testing.T) {
	c := chance(184)
	for k := 1; k <= 32; k++ {
		digest := c.text(k)
		s := record.Node(9, digest)
		for i := k; i < 32; i++ {
			for _, b := range []string{"\x01", "x", "\x80", "\xff"} {
				bad := resummed(s, i, b)
				nodeIs(t, "P18.1: a byte behind the strength", k, 9, bad, "", 180)
				nodeIs(t, "P18.1: the same byte within it", i+1, 9, bad, digest+zeros(i-k)+b, 0)
			}
		}
		for i := range k { // what stands within may be any
			nodeIs(t, "P18.1: another digest", k, 9, resummed(s, i, "\x7f"), digest[:i]+"\x7f"+digest[i+1:], 0)
		}
	}
}

func TestNodeTurned(t *testing.T) {
	for _, digest := range []string{"", "x", "xy", zeros(16), strings.Repeat("d", 31), strings.Repeat("d", 32)} {
		for _, p := range []uint64{0, 5, 1<<32 - 1, 1<<33 + 7} {
			s := record.Node(p, digest)
			for i := range nodeLen {
				for mask := 1; mask < 256; mask++ {
					bad := turned(s, i, byte(mask))
					for _, k := range []int{max(1, len(digest)), 32} {
						nodeIs(t, "P18.3: a byte is turned", k, p, bad, "", 180)
					}
					if i >= 32 && i < 36 { // not even at the place that it tells
						there := p ^ uint64(mask)<<(8*(35-i))
						nodeIs(t, "P18.3: a byte of the place is turned", 32, there, bad, "", 180)
					}
				}
			}
		}
	}
}

func TestReadNodeFirstError(t *testing.T) {
	for _, k := range []int{math.MinInt, -1, 0, 33, math.MaxInt} {
		for _, s := range []string{"", "x", zeros(40), record.Node(5, "x"), record.Node(5, "x") + "x", strings.Repeat("d", 39)} {
			for _, p := range []uint64{5, 6, 1<<32 + 5} {
				nodeIs(t, "R1: the strength is looked at first", k, p, s, "", 70)
			}
		}
	}
	nodeIs(t, "R1: a strength and no record", 1, 5, "", "", 180)
}

// TestNodeOfAnyBytes reads texts of which some are records and some are not, and lays what is read.
func TestNodeOfAnyBytes(t *testing.T) {
	c := chance(185)
	read, refused := 0, 0
	for range 20000 {
		k, p := pick(&c, 1, 2, 8, 31, 32, 1+c.below(32), 0, 33), c.number()
		s := c.text(max(0, min(k+c.below(2), 32)))
		s += zeros(32 - len(s))
		s += four(uint32(pick(&c, p, p, p, p^1<<32, c.number())))
		s = summed(s)
		if c.below(8) == 0 {
			s = c.text(pick(&c, 40, 39, 41, c.below(80)))
		}
		digest, e := readNode(k, p, s)
		nodeIs(t, "P18.1", k, p, s, digest, e)
		digest, e = record.ReadNode(k, p, s)
		if e != 0 {
			refused++
			continue
		}
		read++
		is(t, "P18.2: what is read is laid as these bytes", record.Node(p, digest), s)
	}
	if read < 2000 || refused < 2000 {
		t.Errorf("the texts by chance do not try both: %d are read, %d not", read, refused)
	}
}
