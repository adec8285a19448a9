package record_test

import (
	"math"
	"strings"
	"testing"

	"massif/record"
)

// markers are of all strengths, with numbers that are 0, small, the greatest of their types, or one of them alone.
func markers() []record.Marker {
	const most = math.MaxUint64
	list := []record.Marker{}
	for k := 1; k <= 32; k++ {
		list = append(list, record.Marker{K: k}, record.Marker{K: k, Size: 1, Items: 9, Nodes: 40, Chain: 0xe3069283}, record.Marker{K: k, Size: most, Items: most, Nodes: most, Chain: math.MaxUint32})
	}
	for _, n := range numbers() {
		list = append(list, record.Marker{K: 1, Size: n}, record.Marker{K: 2, Items: n}, record.Marker{K: 31, Nodes: n}, record.Marker{K: 32, Chain: uint32(n)})
	}
	return list
}

func TestMarkByHand(t *testing.T) {
	const ones = "\xff\xff\xff\xff\xff\xff\xff\xff"
	for _, x := range []struct {
		m    record.Marker
		want string
	}{
		{
			record.Marker{K: 32, Size: 3, Items: 27, Nodes: 160, Chain: 0x01020304},
			"\x6d\x73\x66\x01" + "\x20" + "\x00\x00\x00" + "\x00\x00\x00\x00\x00\x00\x00\x03" + "\x00\x00\x00\x00\x00\x00\x00\x1b" + "\x00\x00\x00\x00\x00\x00\x00\xa0" + "\x01\x02\x03\x04" + zeros(24) + "\x9b\x9f\xc8\x86",
		},
		{
			record.Marker{K: 1, Size: math.MaxUint64, Items: math.MaxUint64, Nodes: math.MaxUint64, Chain: math.MaxUint32},
			"\x6d\x73\x66\x01" + "\x01" + "\x00\x00\x00" + ones + ones + ones + "\xff\xff\xff\xff" + zeros(24) + "\x14\x78\xa6\x88",
		},
	} {
		is(t, "P18.1: Mark", record.Mark(x.m), x.want)
		markIs(t, "P18.2", x.want, x.m, 0)
	}
}

func TestMarkThereAndBack(t *testing.T) {
	for _, m := range markers() {
		s := record.Mark(m)
		is(t, "P18.1: Mark", s, mark(m))
		if len(s) != markLen {
			t.Errorf("P18.1: a marker's record has %d bytes", len(s))
		}
		markIs(t, "P18.2", s, m, 0)
	}
}

func TestMarkOfAnyStrength(t *testing.T) {
	for k := -1; k <= 34; k++ {
		m := record.Marker{K: k, Size: 1, Items: 2, Nodes: 3, Chain: 4}
		want := ""
		if k >= 1 && k <= 32 {
			want = mark(m)
		}
		is(t, "P18.1: Mark", record.Mark(m), want)
	}
	for _, k := range []int{math.MinInt, -255, -1 << 32, 255, 256, 257, 259, 1<<32 + 1, 1<<40 + 32, math.MaxInt} {
		is(t, "P18.1: Mark of no strength", record.Mark(record.Marker{K: k, Size: 1}), "")
	}
	is(t, "P18.1: Mark of the zero Marker", record.Mark(record.Marker{}), "")
}

func TestReadMarkOfOtherLengths(t *testing.T) {
	none := record.Marker{}
	for _, m := range markers() {
		s := record.Mark(m)
		for n := range markLen {
			markIs(t, "P18.3: cut", s[:n], none, 180)
			markIs(t, "P18.3: cut ahead", s[markLen-n:], none, 180)
		}
		for _, behind := range []string{"\x00", "x", zeros(64), s} {
			markIs(t, "P18.1: more bytes", s+behind, none, 180)
		}
		markIs(t, "P18.1: 63 bytes, and a right sum", summed(s[:59]), none, 180)
		markIs(t, "P18.1: 65 bytes, and a right sum", summed(s[:60]+"\x00"), none, 180)
	}
	for _, n := range []int{0, 1, 63, 64, 65, 128} {
		markIs(t, "P18.1: zeros", zeros(n), none, 180)
		markIs(t, "P18.1: zeros, and a right sum", summed(zeros(max(0, n-4))), none, 180)
	}
}

func TestMarkTurned(t *testing.T) {
	for _, m := range []record.Marker{
		{K: 1},
		{K: 3, Size: 1, Items: 1 << 33, Nodes: 40, Chain: 0x01020304},
		{K: 32, Size: math.MaxUint64, Items: math.MaxUint64, Nodes: math.MaxUint64, Chain: math.MaxUint32},
	} {
		s := record.Mark(m)
		for i := range markLen {
			for mask := 1; mask < 256; mask++ {
				markIs(t, "P18.3: a byte is turned", turned(s, i, byte(mask)), record.Marker{}, 180)
			}
		}
	}
}

// TestReadMarkOfNoMarkers looks at records of which no sum tells that they are none.
func TestReadMarkOfNoMarkers(t *testing.T) {
	none := record.Marker{}
	for _, m := range []record.Marker{{K: 1}, {K: 32, Size: 7, Items: 70, Nodes: 280, Chain: 0xf0e0d0c0}} {
		s := record.Mark(m)
		for i := range 4 {
			for mask := 1; mask < 256; mask++ {
				markIs(t, "P18.1: another beginning", resummed(s, i, turned(s, i, byte(mask))[i:i+1]), none, 180)
			}
		}
		for _, other := range []string{"MSF\x01", "msf1", "\x01fsm", zeros(4), "sf\x01m"} {
			markIs(t, "P18.1: another beginning", resummed(s, 0, other), none, 180)
		}
		for k := range 256 {
			want := m
			want.K = k
			bytes := resummed(s, 4, string([]byte{byte(k)}))
			if k < 1 || k > 32 {
				markIs(t, "P18.1: no strength", bytes, none, 180)
			} else {
				markIs(t, "P18.1: another strength", bytes, want, 0)
			}
		}
		for i := range markLen - 4 {
			if i >= 5 && i < 8 || i >= 36 {
				for b := 1; b < 256; b++ {
					markIs(t, "P18.1: a byte that must be 0", resummed(s, i, string([]byte{byte(b)})), none, 180)
				}
			}
		}
		markIs(t, "P18.1: three bytes that must be 0", resummed(s, 5, "\xff\xff\xff"), none, 180)
		markIs(t, "P18.1: 24 bytes that must be 0", resummed(s, 36, strings.Repeat("\xff", 24)), none, 180)
		markIs(t, "P18.1: a strength whose lowest byte stands last", resummed(s, 4, zeros(3)+"\x01"), none, 180)
	}
}

// TestReadMarkOfOtherNumbers looks at records in which one byte of a number is another one, and the sum is right.
func TestReadMarkOfOtherNumbers(t *testing.T) {
	m := record.Marker{K: 5, Size: 0x0102030405060708, Items: 0x1112131415161718, Nodes: 0x2122232425262728, Chain: 0x31323334}
	s := record.Mark(m)
	for i := 8; i < 36; i++ {
		want := m
		switch {
		case i < 16:
			want.Size ^= 0x80 << (8 * (15 - i))
		case i < 24:
			want.Items ^= 0x80 << (8 * (23 - i))
		case i < 32:
			want.Nodes ^= 0x80 << (8 * (31 - i))
		default:
			want.Chain ^= 0x80 << (8 * (35 - i))
		}
		markIs(t, "P18.1: another number", resummed(s, i, turned(s, i, 0x80)[i:i+1]), want, 0)
	}
}

// TestMarkOfAnyBytes reads texts of which some are records and some are not, and lays what is read.
func TestMarkOfAnyBytes(t *testing.T) {
	c := chance(186)
	read, refused := 0, 0
	for range 20000 {
		m := record.Marker{K: c.below(34), Size: c.number(), Items: c.number(), Nodes: c.number(), Chain: uint32(c.number())}
		s := record.Mark(m)
		is(t, "P18.1: Mark", s, mark(m))
		switch {
		case s == "" || c.below(8) == 0:
			s = c.text(pick(&c, 64, 63, 65, c.below(130)))
		case c.below(2) == 0: // a sum that is right, whatever stands ahead of it
			s = resummed(s, c.below(57), c.text(1+c.below(3)))
		case c.below(8) == 0:
			s = turned(s, c.below(64), byte(1+c.below(255)))
		}
		want, e := readMark(s)
		markIs(t, "P18.1", s, want, e)
		got, e := record.ReadMark(s)
		if e != 0 {
			refused++
			continue
		}
		read++
		is(t, "P18.2: what is read is laid as these bytes", record.Mark(got), s)
	}
	if read < 2000 || refused < 2000 {
		t.Errorf("the texts by chance do not try both: %d are read, %d not", read, refused)
	}
}
