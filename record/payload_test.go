package record_test

import (
	"strings"
	"testing"

	"massif/record"
)

// items are of no byte, of one, of some and of many; their bytes are alike or by chance.
func items() []string {
	c := chance(181)
	list := []string{"", "a", "\x00", "\xff", "ab", "\x00\x00", "\x00\x00\x00\x00", "äöü\x00€\xc3", "\x00\x00\x00\x01a\xc5\x7d\xfe\x23"}
	for _, n := range []int{3, 4, 5, 63, 64, 65, 255, 256, 257, 4096, 65535, 65536, 65537} {
		list = append(list, zeros(n), c.text(n), c.text(n))
	}
	return append(list, c.text(maxItem-1), c.text(maxItem), zeros(maxItem))
}

func TestPayloadByHand(t *testing.T) {
	for _, x := range []struct{ item, want string }{
		{"", "\x00\x00\x00\x00" + "\x48\x67\x4b\xc7"},
		{"a", "\x00\x00\x00\x01" + "a" + "\xc5\x7d\xfe\x23"},
		{"ab", "\x00\x00\x00\x02" + "ab" + "\x0b\x86\x70\x63"},
		{strings.Repeat("y", 255), "\x00\x00\x00\xff" + strings.Repeat("y", 255) + "\xfc\xfb\x72\xd4"},
		{strings.Repeat("y", 256), "\x00\x00\x01\x00" + strings.Repeat("y", 256) + "\x0b\x6a\xfc\x87"},
		{strings.Repeat("y", maxItem), "\x00\x10\x00\x00" + strings.Repeat("y", maxItem) + "\xaa\x81\x51\xf9"},
	} {
		is(t, "P18.1: Payload", record.Payload(x.item), x.want)
		payloadIs(t, "P18.2", x.want, x.item, len(x.item)+8, 0)
	}
}

func TestPayloadOfAllItems(t *testing.T) {
	for _, item := range items() {
		s := record.Payload(item)
		is(t, "P18.1: Payload", s, payload(item))
		if len(s) != len(item)+8 {
			t.Errorf("P18.1: the record of %d bytes has %d", len(item), len(s))
		}
	}
	for _, n := range []int{maxItem + 1, maxItem + 2, 2 * maxItem, 1 << 24} {
		is(t, "P18.1: Payload of an item above MaxItem", record.Payload(zeros(n)), "")
	}
}

func TestPayloadThereAndBack(t *testing.T) {
	for _, item := range items() {
		s, n := record.Payload(item), len(item)+8
		for _, behind := range []string{"", "\x00", "x", "\xff", "xyz", s, zeros(100)} {
			payloadIs(t, "P18.2", s+behind, item, n, 0)
		}
	}
}

func TestPayloadCut(t *testing.T) {
	for _, item := range items() {
		s := record.Payload(item)
		step := max(1, len(s)/300)
		for n := 0; n < len(s); n += step {
			payloadIs(t, "P18.3: cut", s[:n], "", 0, 180)
		}
		for n := max(0, len(s)-10); n < len(s); n++ {
			payloadIs(t, "P18.3: cut", s[:n], "", 0, 180)
		}
	}
}

func TestPayloadOfShortTexts(t *testing.T) {
	for n := range 9 {
		for _, b := range []string{"\x00", "\x01", "x", "\xff"} {
			payloadIs(t, "P18.1: a short text", strings.Repeat(b, n), "", 0, 180)
		}
	}
	for n := range 4 { // not even a length
		payloadIs(t, "P18.1: a short text", summed("")[:n], "", 0, 180)
	}
	payloadIs(t, "P18.1: a sum without a length", summed(""), "", 0, 180)
	payloadIs(t, "P18.1: eight bytes", "\x00\x00\x00\x00\x48\x67\x4b\xc7", "", 8, 0)
	payloadIs(t, "P18.1: a sum with the lowest byte first", "\x00\x00\x00\x00\xc7\x4b\x67\x48", "", 0, 180)
	payloadIs(t, "P18.1: a length with the lowest byte first", summed("\x01\x00\x00\x00a"), "", 0, 180)
}

func TestPayloadLengths(t *testing.T) {
	long := zeros(maxItem + 100)
	for _, n := range []int{maxItem + 1, maxItem + 2, maxItem + 92} {
		payloadIs(t, "P18.1: a length above MaxItem, and a right sum", summed(four(uint32(n))+long[:n]), "", 0, 180)
		payloadIs(t, "P18.1: a length above MaxItem, and a right sum", summed(four(uint32(n))+long[:n])+"more", "", 0, 180)
	}
	for _, n := range []uint32{maxItem + 1, 1 << 24, 1<<31 - 9, 1<<31 - 8, 1<<31 - 1, 1 << 31, 1<<32 - 9, 1<<32 - 8, 1<<32 - 7, 1<<32 - 4, 1<<32 - 1} {
		for _, behind := range []string{"", "a", zeros(4), zeros(40), long} {
			payloadIs(t, "P18.1: a length above MaxItem", four(n)+behind, "", 0, 180)
			payloadIs(t, "P18.1: a length above MaxItem", summed(four(n)+behind), "", 0, 180)
		}
	}
	for _, item := range []string{"", "a", "ab", zeros(300)} {
		n := len(item)
		payloadIs(t, "P18.1: a length of one byte more, and a right sum", summed(four(uint32(n+1))+item), "", 0, 180)
		payloadIs(t, "P18.1: a length of one byte more with that byte there", summed(four(uint32(n+1))+item+"x"), item+"x", n+9, 0)
		payloadIs(t, "P18.1: a length of many more, and a right sum", summed(four(uint32(n+5))+item), "", 0, 180)
		payloadIs(t, "P18.1: a length of MaxItem, and a right sum", summed(four(maxItem)+item), "", 0, 180)
	}
	payloadIs(t, "P18.1: a length of one byte less, and the sum of all", summed("\x00\x00\x00\x01ab"), "", 0, 180)
}

func TestPayloadTurned(t *testing.T) {
	for _, item := range items() {
		s := record.Payload(item)
		step := max(1, len(s)/40)
		for i := 4; i < len(s); i += step {
			for mask := 1; mask < 256; mask++ {
				if len(s) > 70 && mask&(mask-1) != 0 && mask != 255 { // one bit, or all of them, of long ones
					continue
				}
				if len(s) > 5000 && (i/step+mask)%9 != 0 {
					continue
				}
				payloadIs(t, "P18.3: a byte is turned", turned(s, i, byte(mask)), "", 0, 180)
			}
		}
		for i := len(s) - 5; i < len(s); i++ {
			if i >= 4 {
				payloadIs(t, "P18.3: a byte is turned", turned(s, i, 1), "", 0, 180)
				payloadIs(t, "P18.3: a byte is turned", turned(s, i, 0x80)+"xyz", "", 0, 180)
			}
		}
	}
}

// TestPayloadOfAnyBytes reads texts of which some begin with a record and some do not, and lays what is read.
func TestPayloadOfAnyBytes(t *testing.T) {
	c := chance(182)
	read, refused := 0, 0
	for range 20000 {
		length := pick(&c, 0, 1, 2, 3, 5, 17, 300)
		s := four(uint32(length)) + c.text(max(0, length+c.below(3)-1))
		if c.below(4) > 0 {
			s = summed(s)
		}
		s += c.text(pick(&c, 0, 0, 1, 7, 60))
		s = s[:len(s)-min(len(s), pick(&c, 0, 0, 0, 0, 1, 2, 9))]
		item, n, e := readPayload(s)
		payloadIs(t, "P18.1", s, item, n, e)
		item, n, e = record.ReadPayload(s)
		if e != 0 {
			refused++
			continue
		}
		read++
		is(t, "P18.2: what is read is laid as these bytes", record.Payload(item), s[:n])
	}
	if read < 2000 || refused < 2000 {
		t.Errorf("the texts by chance do not try both: %d are read, %d not", read, refused)
	}
}
