package wire_test

import (
	"encoding/binary"
	"math"
	"math/big"
	"strings"
	"testing"

	"massif/api"
	"massif/wire"
)

// chance gives numbers by a rule, the same ones in every run.
type chance uint64

func (c *chance) next() uint64 {
	*c = *c*6364136223846793005 + 1442695040888963407
	return uint64(*c)>>32 ^ uint64(*c)<<32
}

// below is a number from 0 to n - 1.
func (c *chance) below(n int) int {
	return int(c.next() % (1 << 32) * uint64(n) >> 32)
}

// number has any count of bits, so that all lengths of bytes come up.
func (c *chance) number() uint64 {
	return c.next() >> c.below(64)
}

// numbers stand at both sides of every power of two (so of every power of 2^7, and of 2^63), at both ends, and by the rule.
func numbers() []uint64 {
	list := []uint64{0, 300, 16383, 16384, math.MaxUint64, math.MaxUint64 - 1}
	for h := range 64 {
		power := uint64(1) << h
		list = append(list, power-1, power, power+1, math.MaxUint64-power)
	}
	c := chance(6)
	for range 2000 {
		list = append(list, c.number())
	}
	return list
}

// length is how many bytes of seven bits n asks for: one for 0 to 127, ten for 2^63 and above.
func length(n uint64) int {
	bits := new(big.Int).SetUint64(n).BitLen()
	return max(1, (bits+6)/7)
}

// worth is what a row of bytes adds up to, without a bound: seven bits a byte, the lowest first.
func worth(row string) *big.Int {
	sum := new(big.Int)
	for i := len(row) - 1; i >= 0; i-- {
		sum.Mul(sum, big.NewInt(128))
		sum.Add(sum, big.NewInt(int64(row[i]%128)))
	}
	return sum
}

// model is a reader by the chapter's words: all of the text, how far it is, and its first error.
type model struct {
	text string
	at   int
	kept api.Errno
}

// look tells how many bytes the number at the place has, or the error, by the chapter's list of what is looked at.
func (m *model) look() (int, api.Errno) {
	for count := 1; ; count++ {
		if m.at+count > len(m.text) {
			return 0, api.ErrShort
		}
		b := m.text[m.at+count-1]
		if count == 10 && b > 1 {
			return 0, api.ErrForm
		}
		if b < 128 {
			if b == 0 && count > 1 {
				return 0, api.ErrForm
			}
			return count, api.OK
		}
	}
}

func (m *model) number() (uint64, api.Errno) {
	if m.kept != api.OK {
		return 0, m.kept
	}
	count, e := m.look()
	if e != api.OK {
		m.kept = e
		return 0, e
	}
	row := m.text[m.at : m.at+count]
	m.at += count
	return worth(row).Uint64(), api.OK
}

func (m *model) take(n int) (string, api.Errno) {
	if m.kept != api.OK {
		return "", m.kept
	}
	if n < 0 || n > len(m.text)-m.at {
		m.kept = api.ErrShort
		return "", m.kept
	}
	taken := m.text[m.at : m.at+n]
	m.at += n
	return taken, api.OK
}

func (m *model) left() int {
	if m.kept != api.OK {
		return 0
	}
	return len(m.text) - m.at
}

// call is one of a Reader's: 'N' Number, 'T' Take of n, 'L' Left.
type call struct {
	what byte
	n    int
}

// same does one call with both, and tells whether they answer alike.
func same(r *wire.Reader, m *model, c call) bool {
	switch c.what {
	case 'N':
		n, e := r.Number()
		wantN, wantE := m.number()
		return n == wantN && e == wantE
	case 'T':
		s, e := r.Take(c.n)
		wantS, wantE := m.take(c.n)
		return s == wantS && e == wantE
	}
	return r.Left() == m.left()
}

// heldLeft does the calls with a new Reader of text and with the model of it, asking Left behind each.
func heldLeft(t *testing.T, text string, calls []call) {
	t.Helper()
	r, m := wire.NewReader(text), &model{text: text}
	for i, c := range calls {
		if !same(r, m, c) || !same(r, m, call{'L', 0}) {
			t.Fatalf("P6.1: of %x, the calls %v: the one at %d is not as the chapter says", text, calls, i)
		}
	}
}

// held does the same calls without a Left between them, too: asking it is to change nothing.
func held(t *testing.T, text string, calls []call) {
	t.Helper()
	heldLeft(t, text, calls)
	r, m := wire.NewReader(text), &model{text: text}
	for i, c := range calls {
		if !same(r, m, c) {
			t.Fatalf("P6.1: of %x, the calls %v alone: the one at %d is not as the chapter says", text, calls, i)
		}
	}
}

func TestExamplesOfNumber(t *testing.T) {
	for _, c := range []struct {
		n    uint64
		want string
	}{
		{0, "\x00"}, {127, "\x7f"}, {128, "\x80\x01"}, {300, "\xac\x02"},
		{math.MaxUint64, "\xff\xff\xff\xff\xff\xff\xff\xff\xff\x01"},
	} {
		if got := wire.Number(c.n); got != c.want {
			t.Errorf("P6.1: Number(%d) = %x, want %x", c.n, got, c.want)
		}
	}
}

func TestExamplesOfWrongForms(t *testing.T) {
	for _, c := range []struct {
		text string
		want api.Errno
	}{
		{"\x80\x00", api.ErrForm}, {"\x80", api.ErrShort}, {"", api.ErrShort},
		{strings.Repeat("\xff", 9) + "\x02", api.ErrForm},
		{strings.Repeat("\xff", 10), api.ErrForm},
		{strings.Repeat("\x80", 9) + "\x00", api.ErrForm},
		{strings.Repeat("\x80", 9), api.ErrShort},
		{strings.Repeat("\xff", 9), api.ErrShort},
		{strings.Repeat("\xff", 9) + "\x81\x00", api.ErrForm},
		{strings.Repeat("\x80", 1000), api.ErrForm},
	} {
		r := wire.NewReader(c.text)
		if n, e := r.Number(); n != 0 || e != c.want || r.Left() != 0 {
			t.Errorf("P6.1: of %x: %d, %d, %d left, want the error %d alone", c.text, n, e, r.Left(), c.want)
		}
	}
}

func TestExampleOfReader(t *testing.T) {
	r := wire.NewReader("\x05\x61\x62")
	if n, e := r.Number(); n != 5 || e != api.OK || r.Left() != 2 {
		t.Errorf("P6.1: Number: %d, %d, %d left", n, e, r.Left())
	}
	if s, e := r.Take(1); s != "a" || e != api.OK {
		t.Errorf("P6.1: Take(1): %q, %d", s, e)
	}
	if s, e := r.Take(2); s != "" || e != api.ErrShort || r.Left() != 0 {
		t.Errorf("P6.1: Take(2): %q, %d, %d left", s, e, r.Left())
	}
	if s, e := r.Take(0); s != "" || e != api.ErrShort {
		t.Errorf("P6.1: Take(0) behind an error: %q, %d", s, e)
	}
	if n, e := r.Number(); n != 0 || e != api.ErrShort {
		t.Errorf("P6.1: Number behind an error: %d, %d", n, e)
	}
}

func TestTakeAtTheEnd(t *testing.T) {
	for _, text := range []string{"", "abc"} {
		r := wire.NewReader(text)
		if s, e := r.Take(len(text)); s != text || e != api.OK || r.Left() != 0 {
			t.Errorf("P6.1: all of %q: %q, %d, %d left", text, s, e, r.Left())
		}
		for range 3 {
			if s, e := r.Take(0); s != "" || e != api.OK {
				t.Errorf("P6.1: Take(0) at the end: %q, %d", s, e)
			}
		}
		if s, e := r.Take(-1); s != "" || e != api.ErrShort {
			t.Errorf("P6.1: Take(-1) at the end: %q, %d", s, e)
		}
	}
	for _, n := range []int{-1, -2, 4, 5, math.MinInt, math.MinInt + 1, math.MaxInt, math.MaxInt - 1, 1 << 32, -1 << 32} {
		r := wire.NewReader("abc")
		if s, e := r.Take(n); s != "" || e != api.ErrShort || r.Left() != 0 {
			t.Errorf("P6.1: Take(%d) of three bytes: %q, %d, %d left", n, s, e, r.Left())
		}
	}
}

// TestForm holds Number against the chapter's words: the sum of its bytes, their marks, how few they are.
func TestForm(t *testing.T) {
	for _, n := range numbers() {
		row := wire.Number(n)
		if len(row) != length(n) {
			t.Fatalf("P6.1: Number(%d) = %x has %d bytes, want %d", n, row, len(row), length(n))
		}
		if worth(row).Cmp(new(big.Int).SetUint64(n)) != 0 {
			t.Fatalf("P6.1: Number(%d) = %x is worth %s", n, row, worth(row))
		}
		for i := range len(row) {
			if last := i == len(row)-1; last != (row[i] < 128) {
				t.Fatalf("P6.1: Number(%d) = %x: the byte %d", n, row, i)
			}
		}
		if want := string(binary.AppendUvarint(nil, n)); row != want {
			t.Fatalf("P6.1: Number(%d) = %x, the library has %x", n, row, want)
		}
	}
}

// TestLengths tells the edges of one to ten bytes apart.
func TestLengths(t *testing.T) {
	for count := 1; count < 10; count++ {
		edge := uint64(1) << (7 * count)
		if below, above := len(wire.Number(edge-1)), len(wire.Number(edge)); below != count || above != count+1 {
			t.Errorf("P6.1: at 2^%d: %d bytes, then %d", 7*count, below, above)
		}
	}
	if edge := uint64(1) << 63; len(wire.Number(edge-1)) != 9 || len(wire.Number(edge)) != 10 {
		t.Errorf("P6.1: at 2^63: %x, then %x", wire.Number(edge-1), wire.Number(edge))
	}
}

// TestShortTexts goes through every text of up to two bytes, and every third byte behind bytes that ask for more.
func TestShortTexts(t *testing.T) {
	calls := []call{{'N', 0}, {'N', 0}, {'N', 0}, {'T', 0}, {'N', 0}}
	held(t, "", calls)
	for a := range 256 {
		held(t, string([]byte{byte(a)}), calls)
		for b := range 256 {
			held(t, string([]byte{byte(a), byte(b)}), calls)
			held(t, string([]byte{byte(a) | 128, byte(b) | 128, byte(a ^ b)}), calls)
		}
	}
}

// edged are all texts of the length over the bytes at which the chapter's list turns.
func edged(length int) []string {
	if length == 0 {
		return []string{""}
	}
	list := []string{}
	for _, text := range edged(length - 1) {
		for _, b := range []string{"\x00", "\x01", "\x02", "\x7f", "\x80", "\x81", "\xff"} {
			list = append(list, text+b)
		}
	}
	return list
}

func TestEdgedTexts(t *testing.T) {
	calls := []call{{'N', 0}, {'N', 0}, {'T', 1}, {'N', 0}, {'N', 0}}
	for length := range 6 {
		for _, text := range edged(length) {
			held(t, text, calls)
		}
	}
}

// TestLongTexts stands numbers' ends at every place up to behind the tenth byte.
func TestLongTexts(t *testing.T) {
	calls := []call{{'N', 0}, {'N', 0}, {'T', 1}}
	for _, high := range []string{"\x80", "\x81", "\xaa", "\xff"} {
		for count := range 14 {
			for last := range 256 {
				text := strings.Repeat(high, count) + string([]byte{byte(last)})
				for _, behind := range []string{"", "\x00", "\x01", "\x80", "z\x80\x00"} {
					held(t, text+behind, calls)
				}
			}
		}
	}
}

// TestEveryOrder goes through every row of up to four calls over texts with numbers, wrong forms and cut ones.
func TestEveryOrder(t *testing.T) {
	kinds := []call{{'N', 0}, {'L', 0}, {'T', 0}, {'T', 1}, {'T', 2}, {'T', 3}, {'T', 5}, {'T', -1}, {'T', math.MaxInt}, {'T', math.MinInt}}
	texts := []string{"", "\x00", "\x05ab", "\x80", "\x80\x00", "\x80\x01\x80\x00a", "\x7f\xff\x7f\x80", "\x00\x00\x00\x00\x00\x00", strings.Repeat("\xff", 9) + "\x01\x02"}
	for _, text := range texts {
		for row := range len(kinds) * len(kinds) * len(kinds) * len(kinds) {
			calls := make([]call, 4)
			for i := range calls {
				calls[i] = kinds[row%len(kinds)]
				row /= len(kinds)
			}
			held(t, text, calls)
		}
	}
}

// mixed lays numbers, texts and now and then a byte that spoils them.
func mixed(c *chance) string {
	var b strings.Builder
	for range c.below(30) {
		switch c.below(6) {
		case 0:
			b.WriteByte(byte(c.next()))
		case 1:
			b.WriteString(strings.Repeat("x", c.below(20)))
		default:
			b.WriteString(wire.Number(c.number()))
		}
	}
	return b.String()
}

func TestLongOrders(t *testing.T) {
	c := chance(61)
	for range 20000 {
		calls := make([]call, c.below(40))
		for i := range calls {
			switch c.below(8) {
			case 0:
				calls[i] = call{'L', 0}
			case 1, 2:
				calls[i] = call{'T', c.below(12)}
			case 3:
				calls[i] = call{'T', c.below(200) - 2}
			default:
				calls[i] = call{'N', 0}
			}
		}
		held(t, mixed(&c), calls)
	}
}

// TestFirstErrorStays makes each error first, then what alone would make the other one, many times.
func TestFirstErrorStays(t *testing.T) {
	for _, c := range []struct {
		text  string
		spoil func(r *wire.Reader) api.Errno
		want  api.Errno
	}{
		{"\x80\x00abc", func(r *wire.Reader) api.Errno { _, e := r.Number(); return e }, api.ErrForm},
		{strings.Repeat("\xff", 11) + "abc", func(r *wire.Reader) api.Errno { _, e := r.Number(); return e }, api.ErrForm},
		{"\x81\x80", func(r *wire.Reader) api.Errno { _, e := r.Number(); return e }, api.ErrShort},
		{"\x80\x00\x05a", func(r *wire.Reader) api.Errno { _, e := r.Take(5); return e }, api.ErrShort},
		{"\x80\x00\x05a", func(r *wire.Reader) api.Errno { _, e := r.Take(-1); return e }, api.ErrShort},
	} {
		r := wire.NewReader(c.text)
		if e := c.spoil(r); e != c.want {
			t.Fatalf("P6.1: of %x: the error %d, want %d", c.text, e, c.want)
		}
		for _, n := range []int{0, 1, -1, 2, 100, math.MinInt, 0} {
			if got := r.Left(); got != 0 {
				t.Errorf("P6.1: of %x: %d left behind the error", c.text, got)
			}
			if x, e := r.Number(); x != 0 || e != c.want {
				t.Errorf("P6.1: of %x: Number behind the error %d: %d, %d", c.text, c.want, x, e)
			}
			if s, e := r.Take(n); s != "" || e != c.want {
				t.Errorf("P6.1: of %x: Take(%d) behind the error %d: %q, %d", c.text, n, c.want, s, e)
			}
		}
	}
}

// TestInTurns has many Readers, two of each text, called in turns: none sees what another did.
func TestInTurns(t *testing.T) {
	c := chance(62)
	for range 300 {
		readers, models := []*wire.Reader{}, []*model{}
		for range 3 {
			text := mixed(&c)
			for range 2 {
				readers = append(readers, wire.NewReader(text))
				models = append(models, &model{text: text})
			}
		}
		for range 200 {
			i := c.below(len(readers))
			next := call{"NNTL"[c.below(4)], c.below(6)}
			if !same(readers[i], models[i], next) {
				t.Fatalf("R11: of %x, in turns with others: not as alone", models[i].text)
			}
		}
	}
}

// back reads all of the numbers, one behind the other, and nothing else.
func back(t *testing.T, list []uint64) {
	t.Helper()
	var laid strings.Builder
	for _, n := range list {
		laid.WriteString(wire.Number(n))
	}
	r := wire.NewReader(laid.String())
	ahead := laid.Len()
	for i, n := range list {
		ahead -= length(n)
		if got, e := r.Number(); got != n || e != api.OK || r.Left() != ahead {
			t.Fatalf("P6.2: the number %d, %d, is read as %d, %d, with %d left, want %d", i, n, got, e, r.Left(), ahead)
		}
	}
	if s, e := r.Take(0); s != "" || e != api.OK || r.Left() != 0 {
		t.Fatalf("P6.2: behind all: %q, %d, %d left", s, e, r.Left())
	}
	if n, e := r.Number(); n != 0 || e != api.ErrShort {
		t.Fatalf("P6.2: behind all: %d, %d", n, e)
	}
}

func TestThereAndBack(t *testing.T) {
	back(t, nil)
	back(t, numbers())
	for _, n := range numbers() {
		back(t, []uint64{n})
		back(t, []uint64{n, 0, n, math.MaxUint64, n})
	}
	c := chance(63)
	for range 500 {
		list := make([]uint64, c.below(50))
		for i := range list {
			list[i] = c.number()
		}
		back(t, list)
	}
}

// TestOneForm takes what is read as a number: it is to be that number's own bytes, whatever stands behind.
func TestOneForm(t *testing.T) {
	c := chance(64)
	texts := edged(5)
	for _, high := range []string{"\x80", "\xff"} {
		for count := range 12 {
			for _, behind := range edged(3) {
				texts = append(texts, strings.Repeat(high, count)+behind)
			}
		}
	}
	for range 20000 {
		row := make([]byte, c.below(13))
		for i := range row {
			row[i] = byte(c.next()) | byte(c.below(4)+2)/3<<7
		}
		texts = append(texts, string(row))
	}
	for _, text := range texts {
		r := wire.NewReader(text)
		n, e := r.Number()
		if e != api.OK {
			continue
		}
		if taken := text[:len(text)-r.Left()]; taken != wire.Number(n) {
			t.Fatalf("P6.2: %x is read as %d, which is %x", taken, n, wire.Number(n))
		}
	}
}

// TestOtherForms lays each number in more bytes than it asks for, and adds bits that a uint64 has not.
func TestOtherForms(t *testing.T) {
	for _, n := range numbers() {
		row := wire.Number(n)
		open := row[:len(row)-1] + string([]byte{row[len(row)-1] | 128})
		for count := range 12 {
			text := open + strings.Repeat("\x80", count) + "\x00"
			r := wire.NewReader(text)
			if got, e := r.Number(); got != 0 || e != api.ErrForm || r.Left() != 0 {
				t.Fatalf("P6.2: %x, another form of %d: %d, %d, %d left", text, n, got, e, r.Left())
			}
		}
		nine := open + strings.Repeat("\x80", 9)
		for last := 2; last < 256; last++ {
			text := nine[:9] + string([]byte{byte(last)})
			r := wire.NewReader(text)
			if got, e := r.Number(); got != 0 || e != api.ErrForm || r.Left() != 0 {
				t.Fatalf("P6.2: %x, above 2^64 - 1: %d, %d, %d left", text, got, e, r.Left())
			}
		}
	}
}

// TestCut cuts each number's bytes at every place, alone and behind others.
func TestCut(t *testing.T) {
	for _, n := range numbers() {
		row := wire.Number(n)
		for count := range len(row) {
			r := wire.NewReader(row[:count])
			if got, e := r.Number(); got != 0 || e != api.ErrShort || r.Left() != 0 {
				t.Fatalf("P6.3: %x, cut from %x: %d, %d, %d left", row[:count], row, got, e, r.Left())
			}
			r = wire.NewReader("\xff\x01ab" + row[:count])
			r.Number()
			r.Take(2)
			if got, e := r.Number(); got != 0 || e != api.ErrShort || r.Left() != 0 {
				t.Fatalf("P6.3: %x, cut from %x, behind others: %d, %d, %d left", row[:count], row, got, e, r.Left())
			}
		}
	}
}

// TestLongTake takes a text as long as an item may be, in pieces and whole.
func TestLongTake(t *testing.T) {
	text := strings.Repeat("0123456789abcdef", api.MaxItem/16)
	r := wire.NewReader(wire.Number(uint64(len(text))) + text + text + "\x07")
	n, e := r.Number()
	if n != api.MaxItem || e != api.OK {
		t.Fatalf("P6.1: the length: %d, %d", n, e)
	}
	if s, e := r.Take(int(n)); s != text || e != api.OK {
		t.Errorf("P6.1: the text: %d bytes, %d", len(s), e)
	}
	for at := 0; at < len(text); at += 4096 {
		if s, e := r.Take(4096); s != text[at:at+4096] || e != api.OK {
			t.Fatalf("P6.1: the piece at %d: %d bytes, %d", at, len(s), e)
		}
	}
	if n, e := r.Number(); n != 7 || e != api.OK || r.Left() != 0 {
		t.Errorf("P6.1: behind the text: %d, %d, %d left", n, e, r.Left())
	}
}

func TestOneAnswer(t *testing.T) {
	for _, n := range []uint64{0, 127, 128, 300, 1 << 63, math.MaxUint64} {
		first := wire.Number(n)
		wire.NewReader(first).Number()
		wire.NewReader("\x80\x00").Number()
		if again := wire.Number(n); again != first {
			t.Errorf("R11: Number(%d) = %x, then %x", n, first, again)
		}
	}
}
