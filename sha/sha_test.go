package sha_test

import (
	"crypto/sha256"
	"encoding/hex"
	"slices"
	"strings"
	"testing"

	"massif/sha"
)

// reference is the library's sum, which the program itself may not use.
func reference(text string) string {
	sum := sha256.Sum256([]byte(text))
	return string(sum[:])
}

// sample is a text of n bytes that goes through all values of a byte, 0 and those above 127 too, and repeats at no block's length.
func sample(n int) string {
	raw := make([]byte, n)
	for i := range raw {
		raw[i] = byte(i*7 + i/256*13)
	}
	return string(raw)
}

// lengths are those about the edges of one block and of several.
func lengths() []int {
	return []int{0, 1, 3, 54, 55, 56, 57, 62, 63, 64, 65, 66, 118, 119, 120, 121, 127, 128, 129, 183, 184, 191, 192, 193, 1000, 4096, 1 << 20}
}

func TestExamples(t *testing.T) {
	for _, example := range []struct{ text, sum string }{
		{"", "e3b0c442 98fc1c14 9afbf4c8 996fb924 27ae41e4 649b934c a495991b 7852b855"},
		{"abc", "ba7816bf 8f01cfea 414140de 5dae2223 b00361a3 96177a9c b410ff61 f20015ad"},
		{"abcdbcdecdefdefgefghfghighijhijkijkljklmklmnlmnomnopnopq", "248d6a61 d20638b8 e5c02693 0c3e6039 a33ce459 64ff2167 f6ecedd4 19db06c1"},
	} {
		want := strings.ReplaceAll(example.sum, " ", "")
		if got := hex.EncodeToString([]byte(sha.Of(example.text))); got != want {
			t.Errorf("P1.1: of %q: %s, want %s", example.text, got, want)
		}
		h := sha.New()
		h.Write(example.text)
		if got := hex.EncodeToString([]byte(h.Sum())); got != want {
			t.Errorf("P1.2: of %q, written: %s, want %s", example.text, got, want)
		}
	}
}

func TestNothing(t *testing.T) {
	want := reference("")
	for _, parts := range [][]string{nil, {}, {""}, {"", ""}, {"", "", ""}} {
		if sha.Of(parts...) != want {
			t.Errorf("P1.1: of %d empty parts", len(parts))
		}
	}
	h := sha.New()
	if h.Sum() != want {
		t.Errorf("P1.2: nothing was written")
	}
	h.Write("")
	h.Write("")
	if h.Sum() != want {
		t.Errorf("P1.2: empty texts were written")
	}
}

func TestLengths(t *testing.T) {
	for _, n := range lengths() {
		text := sample(n)
		got := sha.Of(text)
		if len(got) != 32 {
			t.Errorf("P1.1: the sum of %d bytes has %d bytes", n, len(got))
		}
		if got != reference(text) {
			t.Errorf("P1.1: of %d bytes", n)
		}
	}
	for n := range 300 {
		if text := sample(n); sha.Of(text) != reference(text) {
			t.Errorf("P1.1: of %d bytes", n)
		}
		if text := strings.Repeat("\xff", n); sha.Of(text) != reference(text) {
			t.Errorf("P1.1: of %d bytes 255", n)
		}
	}
}

func TestParts(t *testing.T) {
	for _, n := range lengths() {
		text := sample(n)
		want := reference(text)
		for _, cut := range []int{0, 1, 55, 56, 63, 64, 65, n / 3, n / 2, n} {
			cut = min(cut, n)
			if sha.Of(text[:cut], text[cut:]) != want {
				t.Errorf("P1.1: of %d bytes in two parts, cut at %d", n, cut)
			}
			if sha.Of("", text[:cut], "", "", text[cut:], "") != want {
				t.Errorf("P1.1: of %d bytes with empty parts between, cut at %d", n, cut)
			}
		}
	}
	text := sample(200)
	if sha.Of(strings.Split(text, "")...) != reference(strings.Join(strings.Split(text, ""), "")) {
		t.Errorf("P1.1: of many small parts")
	}
	if sha.Of("ab", "c") != sha.Of("a", "bc") {
		t.Errorf("P1.1: where the parts are cut is told by the sum")
	}
	if sha.Of("a", "b") == sha.Of("b", "a") {
		t.Errorf("P1.1: the order of the parts is lost")
	}
}

// TestPartsStay: R3: the list that is handed in stays as it was, with the room behind it.
func TestPartsStay(t *testing.T) {
	room := []string{"a", sample(100), "", "c", "behind", "more behind"}
	before := slices.Clone(room)
	parts := room[:4]
	first := sha.Of(parts...)
	if !slices.Equal(room, before) {
		t.Errorf("R3: the list of parts was changed: %q", room)
	}
	parts[0] = "other"
	if sha.Of(before[:4]...) != first {
		t.Errorf("R11: the same parts, another sum")
	}
}

// TestOneCut goes through every cut of every length up to three blocks, with Sum asked between, twice.
func TestOneCut(t *testing.T) {
	whole := sample(193)
	for n := range len(whole) + 1 {
		want := reference(whole[:n])
		for cut := range n + 1 {
			h := sha.New()
			h.Write(whole[:cut])
			if head := reference(whole[:cut]); h.Sum() != head || h.Sum() != head {
				t.Fatalf("P1.2: Sum behind the first %d bytes", cut)
			}
			h.Write(whole[cut:n])
			if h.Sum() != want || h.Sum() != want {
				t.Fatalf("P1.2: of %d bytes, cut at %d", n, cut)
			}
		}
	}
}

func TestEqualPieces(t *testing.T) {
	text := sample(1025)
	for _, step := range []int{1, 2, 3, 7, 31, 32, 33, 55, 56, 57, 63, 64, 65, 127, 128, 129, 512, 1025} {
		asked, silent := sha.New(), sha.New()
		for from := 0; from < len(text); from += step {
			to := min(from+step, len(text))
			asked.Write(text[from:to])
			asked.Write("")
			silent.Write(text[from:to])
			if want := reference(text[:to]); asked.Sum() != want || asked.Sum() != want {
				t.Fatalf("P1.2: in pieces of %d, behind %d bytes", step, to)
			}
		}
		if silent.Sum() != reference(text) {
			t.Errorf("P1.2: in pieces of %d, Sum asked once", step)
		}
	}
}

// TestUnlikePieces cuts a text by a rule that gives pieces of 0 to 150 bytes in no plain order, and asks Sum behind some of them only.
func TestUnlikePieces(t *testing.T) {
	text := sample(20000)
	for seed := range uint32(40) {
		h, turn := sha.New(), seed
		for from := 0; from < len(text); {
			turn = turn*1664525 + 1013904223
			to := min(from+int(turn>>16)%151, len(text))
			h.Write(text[from:to])
			from = to
			if turn>>28 < 4 && h.Sum() != reference(text[:to]) {
				t.Fatalf("P1.2: row %d, behind %d bytes", seed, to)
			}
		}
		if h.Sum() != sha.Of(text) {
			t.Errorf("P1.2: row %d, the whole", seed)
		}
	}
}

// TestManyBits writes so much that the number of bits needs more than 32 of them.
func TestManyBits(t *testing.T) {
	piece := sample(1 << 20)
	h, want := sha.New(), sha256.New()
	for range 513 {
		h.Write(piece)
		want.Write([]byte(piece))
	}
	if h.Sum() != string(want.Sum(nil)) {
		t.Errorf("P1.2: of more than 2^32 bits")
	}
}

func TestTwoInTurns(t *testing.T) {
	one, other := sample(300), strings.Repeat("x", 500)
	for _, steps := range [][2]int{{1, 1}, {7, 64}, {64, 64}, {63, 65}, {128, 1}} {
		a, b := sha.New(), sha.New()
		atA, atB := 0, 0
		for atA < len(one) || atB < len(other) {
			nextA, nextB := min(atA+steps[0], len(one)), min(atB+steps[1], len(other))
			a.Write(one[atA:nextA])
			b.Write(other[atB:nextB])
			atA, atB = nextA, nextB
			if a.Sum() != reference(one[:atA]) || b.Sum() != reference(other[:atB]) {
				t.Fatalf("P1.3: two Hashes in turns of %v, behind %d and %d bytes", steps, atA, atB)
			}
		}
	}
}

// TestApart: New and Of between another Hash's pieces neither feel it nor touch it.
func TestApart(t *testing.T) {
	old := sha.New()
	old.Write(sample(100))
	if sha.New().Sum() != reference("") {
		t.Errorf("P1.3: a new Hash is not empty")
	}
	if sha.Of("abc") != reference("abc") {
		t.Errorf("P1.3: Of feels another Hash")
	}
	quiet := sha.New()
	old.Write("more")
	if quiet.Sum() != reference("") {
		t.Errorf("P1.3: a Hash feels what another was written")
	}
	if old.Sum() != reference(sample(100)+"more") {
		t.Errorf("P1.3: a Hash was touched by another")
	}
}
