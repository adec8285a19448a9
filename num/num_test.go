package num_test

import (
	"math"
	"math/big"
	"math/bits"
	"testing"

	"massif/num"
)

const most = math.MaxUint64

// samples are 0, the numbers about every power of two and about the greatest, runs of ones from each bit to each, and others by a rule; some stand in it more than once.
func samples() []uint64 {
	list := []uint64{0, 12, 13, 100, most, most - 1, most - 2, 0x5555555555555555, 0xaaaaaaaaaaaaaaaa}
	for h := range 64 {
		power := uint64(1) << h
		list = append(list, power-1, power, power+1, power|1<<63, most^power)
		for low := range h {
			list = append(list, power-uint64(1)<<low, power+uint64(1)<<low)
		}
	}
	for n := range uint64(1000) {
		list = append(list, n)
	}
	turn := uint64(1)
	for range 2000 {
		turn = turn*6364136223846793005 + 1442695040888963407
		list = append(list, turn, turn>>(turn>>58), turn<<(turn>>58))
	}
	return list
}

// whole is n as a number without a bound.
func whole(n uint64) *big.Int { return new(big.Int).SetUint64(n) }

// power is 2^h as a number without a bound.
func power(h int) *big.Int { return new(big.Int).Lsh(big.NewInt(1), uint(h)) }

func TestExamples(t *testing.T) {
	for _, example := range []struct {
		promise, call string
		got, want     int
	}{
		{"P2.1", "Ones(13)", num.Ones(13), 3},
		{"P2.1", "Ones(0)", num.Ones(0), 0},
		{"P2.1", "Ones(2^64 - 1)", num.Ones(most), 64},
		{"P2.2", "Log(13)", num.Log(13), 3},
		{"P2.2", "Log(0)", num.Log(0), -1},
		{"P2.2", "Log(1)", num.Log(1), 0},
		{"P2.2", "Log(2^64 - 1)", num.Log(most), 63},
		{"P2.3", "Ceil(13)", num.Ceil(13), 4},
		{"P2.3", "Ceil(8)", num.Ceil(8), 3},
		{"P2.3", "Ceil(9)", num.Ceil(9), 4},
		{"P2.3", "Ceil(0)", num.Ceil(0), 0},
		{"P2.3", "Ceil(1)", num.Ceil(1), 0},
		{"P2.3", "Ceil(2)", num.Ceil(2), 1},
		{"P2.3", "Ceil(2^63)", num.Ceil(1 << 63), 63},
		{"P2.3", "Ceil(2^63 + 1)", num.Ceil(1<<63 + 1), 64},
		{"P2.3", "Ceil(2^64 - 1)", num.Ceil(most), 64},
		{"P2.4", "Trail(12)", num.Trail(12), 2},
		{"P2.4", "Trail(0)", num.Trail(0), 64},
		{"P2.4", "Trail(2^63)", num.Trail(1 << 63), 63},
		{"P2.4", "Trail(2^64 - 1)", num.Trail(most), 0},
	} {
		if example.got != example.want {
			t.Errorf("%s: %s = %d, want %d", example.promise, example.call, example.got, example.want)
		}
	}
}

func TestOnes(t *testing.T) {
	for _, n := range samples() {
		if got, want := num.Ones(n), bits.OnesCount64(n); got != want {
			t.Errorf("P2.1: Ones(%d) = %d, want %d", n, got, want)
		}
	}
}

func TestLog(t *testing.T) {
	for _, n := range samples() {
		if got, want := num.Log(n), bits.Len64(n)-1; got != want {
			t.Errorf("P2.2: Log(%d) = %d, want %d", n, got, want)
		}
	}
}

// TestCeil holds 2^h against n as numbers without a bound, so that 2^64 is one of them.
func TestCeil(t *testing.T) {
	for _, n := range samples() {
		h := num.Ceil(n)
		if h < 0 || h > 64 {
			t.Errorf("P2.3: Ceil(%d) = %d", n, h)
			continue
		}
		if power(h).Cmp(whole(n)) < 0 {
			t.Errorf("P2.3: Ceil(%d) = %d, but 2^%d is less", n, h, h)
		}
		if h > 0 && power(h-1).Cmp(whole(n)) >= 0 {
			t.Errorf("P2.3: Ceil(%d) = %d is not the least", n, h)
		}
	}
}

func TestTrail(t *testing.T) {
	for _, n := range samples() {
		if got, want := num.Trail(n), bits.TrailingZeros64(n); got != want {
			t.Errorf("P2.4: Trail(%d) = %d, want %d", n, got, want)
		}
	}
}

func TestPow(t *testing.T) {
	for h := range 64 {
		if got, ok := num.Pow(h); !ok || whole(got).Cmp(power(h)) != 0 {
			t.Errorf("P2.5: Pow(%d) = %d, %v", h, got, ok)
		}
	}
	if got, ok := num.Pow(40); got != 1099511627776 || !ok {
		t.Errorf("P2.5: Pow(40) = %d, %v", got, ok)
	}
	for _, h := range []int{
		-1, -2, -63, -64, -65, -128, -192, -256, math.MinInt, math.MinInt + 1, math.MinInt + 40,
		64, 65, 66, 100, 127, 128, 129, 192, 256, 1 << 32, 1<<32 + 40, 1<<62 + 1, math.MaxInt - 1, math.MaxInt,
	} {
		if got, ok := num.Pow(h); got != 0 || ok {
			t.Errorf("P2.5: Pow(%d) = %d, %v, want 0, false", h, got, ok)
		}
	}
}

func TestAddExamples(t *testing.T) {
	for _, example := range []struct {
		a, b, sum uint64
		ok        bool
	}{
		{0, 0, 0, true},
		{0, 1, 1, true},
		{20, 22, 42, true},
		{most, 0, most, true},
		{most - 1, 1, most, true},
		{most, 1, 0, false},
		{most, 2, 0, false},
		{most, most - 1, 0, false},
		{most, most, 0, false},
		{1 << 63, 1<<63 - 2, most - 1, true},
		{1 << 63, 1<<63 - 1, most, true},
		{1 << 63, 1 << 63, 0, false},
		{1 << 63, 1<<63 + 1, 0, false},
	} {
		if sum, ok := num.Add(example.a, example.b); sum != example.sum || ok != example.ok {
			t.Errorf("P2.6: Add(%d, %d) = %d, %v", example.a, example.b, sum, ok)
		}
		if sum, ok := num.Add(example.b, example.a); sum != example.sum || ok != example.ok {
			t.Errorf("P2.6: Add(%d, %d) = %d, %v", example.b, example.a, sum, ok)
		}
	}
}

// others are numbers to be added to n: among them those that lead just below 2^64, to it and just above.
func others(n uint64) []uint64 {
	return []uint64{0, 1, 2, n, n / 2, 1 << 32, 1 << 63, most - n - 1, most - n, most - n + 1, most - n + 2, most - 1, most}
}

func TestAdd(t *testing.T) {
	bound := power(64)
	for _, a := range samples() {
		for _, b := range others(a) {
			sum, ok := num.Add(a, b)
			want := new(big.Int).Add(whole(a), whole(b))
			fits := want.Cmp(bound) < 0
			if !fits {
				want.SetInt64(0)
			}
			if ok != fits || whole(sum).Cmp(want) != 0 {
				t.Errorf("P2.6: Add(%d, %d) = %d, %v, want %d, %v", a, b, sum, ok, want, fits)
			}
			if turned, too := num.Add(b, a); turned != sum || too != ok {
				t.Errorf("P2.7: Add(%d, %d) is not Add(%d, %d)", a, b, b, a)
			}
		}
	}
}

func TestPowers(t *testing.T) {
	for h := range 64 {
		n, ok := num.Pow(h)
		if !ok || num.Ones(n) != 1 || num.Log(n) != h || num.Ceil(n) != h || num.Trail(n) != h {
			t.Errorf("P2.7: 2^%d: Pow %d, %v; Ones %d, Log %d, Ceil %d, Trail %d", h, n, ok, num.Ones(n), num.Log(n), num.Ceil(n), num.Trail(n))
		}
	}
}

func TestOneLess(t *testing.T) {
	for _, n := range samples() {
		if n > 0 && num.Ones(n-1) != num.Ones(n)-1+num.Trail(n) {
			t.Errorf("P2.7: n = %d: Ones(n - 1) = %d, Ones(n) = %d, Trail(n) = %d", n, num.Ones(n-1), num.Ones(n), num.Trail(n))
		}
	}
}

func TestLogAndCeil(t *testing.T) {
	for _, n := range samples() {
		if n == 0 {
			continue
		}
		low, high := num.Log(n), num.Ceil(n)
		if low > high {
			t.Errorf("P2.7: Log(%d) = %d is above Ceil, %d", n, low, high)
		}
		if isPower := n&(n-1) == 0; (low == high) != isPower {
			t.Errorf("P2.7: n = %d: Log %d, Ceil %d; a power of two: %v", n, low, high, isPower)
		}
	}
}

func TestMultiple(t *testing.T) {
	for _, n := range samples() {
		if n == 0 {
			continue
		}
		h := num.Trail(n)
		if h < 0 || h > 63 {
			t.Errorf("P2.7: Trail(%d) = %d", n, h)
			continue
		}
		if new(big.Int).Mod(whole(n), power(h)).Sign() != 0 {
			t.Errorf("P2.7: %d is no multiple of 2^%d", n, h)
		}
		if new(big.Int).Mod(whole(n), power(h+1)).Sign() == 0 {
			t.Errorf("P2.7: %d is a multiple of 2^%d too", n, h+1)
		}
	}
}

// TestAgain: R11: what was asked between changes no answer.
func TestAgain(t *testing.T) {
	list := samples()
	first := make([][4]int, len(list))
	for i, n := range list {
		first[i] = [4]int{num.Ones(n), num.Log(n), num.Ceil(n), num.Trail(n)}
	}
	for i := len(list) - 1; i >= 0; i-- {
		n := list[i]
		if again := [4]int{num.Trail(n), num.Ceil(n), num.Log(n), num.Ones(n)}; again != [4]int{first[i][3], first[i][2], first[i][1], first[i][0]} {
			t.Errorf("R11: n = %d: %v, then backwards %v", n, first[i], again)
		}
	}
}
