package cover_test

import (
	"math"
	"runtime"
	"slices"
	"strconv"
	"strings"
	"testing"
	"time"

	"massif/api"
	"massif/cover"
	"massif/num"
)

const (
	leaves = uint64(api.MaxLeaves)
	most   = uint64(math.MaxUint64)
)

// text writes blocks as the chapter does.
func text(blocks []api.Block) string {
	var words []string
	for _, b := range blocks {
		words = append(words, strconv.Itoa(b.H)+","+strconv.FormatUint(b.K, 10))
	}
	return strings.Join(words, " ")
}

// first and end: a block has the items first to end - 1.
func first(b api.Block) uint64 { return b.K << b.H }
func end(b api.Block) uint64   { return (b.K + 1) << b.H }

// within tells if all items of b are items of whole.
func within(b, whole api.Block) bool { return first(whole) <= first(b) && end(b) <= end(whole) }

// mountains are laid by the document's words: the blocks of the sizes of the ones of n, the greatest first, side by side.
func mountains(n uint64) []api.Block {
	var list []api.Block
	at := uint64(0)
	for h := 40; h >= 0; h-- {
		if n&(1<<h) != 0 {
			list = append(list, api.Block{H: h, K: at / (1 << h)})
			at += 1 << h
		}
	}
	return list
}

// largest goes through every block of few items, keeps those in a mountain of n with wanted items alone, and of these the ones that lie in no greater one; from the left.
func largest(n uint64, wanted func(i uint64) bool) []api.Block {
	var good []api.Block
	for h := 0; uint64(1)<<h <= n; h++ {
		for k := uint64(0); (k+1)<<h <= n; k++ {
			b := api.Block{H: h, K: k}
			if slices.ContainsFunc(mountains(n), func(m api.Block) bool { return within(b, m) }) && allWanted(b, wanted) {
				good = append(good, b)
			}
		}
	}
	var list []api.Block
	for _, b := range good {
		if !slices.ContainsFunc(good, func(g api.Block) bool { return g.H > b.H && within(b, g) }) {
			list = append(list, b)
		}
	}
	slices.SortFunc(list, func(a, b api.Block) int { return int(first(a)) - int(first(b)) })
	return list
}

func allWanted(b api.Block, wanted func(i uint64) bool) bool {
	for i := first(b); i < end(b); i++ {
		if !wanted(i) {
			return false
		}
	}
	return true
}

// cut goes down from each mountain of n: hits tells how many items of a block are unwanted. A way that is not the program's, for many items.
func cut(n uint64, hits func(b api.Block) uint64) []api.Block {
	var list []api.Block
	var down func(b api.Block)
	down = func(b api.Block) {
		switch hits(b) {
		case 0:
			list = append(list, b)
		case 1 << b.H:
		default:
			down(api.Block{H: b.H - 1, K: 2 * b.K})
			down(api.Block{H: b.H - 1, K: 2*b.K + 1})
		}
	}
	for _, m := range mountains(n) {
		down(m)
	}
	return list
}

// cutRange is the cover of lo to hi by that way.
func cutRange(lo, hi, n uint64) []api.Block {
	return cut(n, func(b api.Block) uint64 {
		from, to := max(lo, first(b)), min(hi, end(b))
		if from >= to {
			return 1 << b.H
		}
		return 1<<b.H - (to - from)
	})
}

// cutRest is the rest of a set by that way.
func cutRest(n uint64, set []uint64) []api.Block {
	return cut(n, func(b api.Block) uint64 {
		from, _ := slices.BinarySearch(set, first(b))
		to, _ := slices.BinarySearch(set, end(b))
		return uint64(to - from)
	})
}

// sizes are numbers up to MaxLeaves: the first ones, those about every power of two, the greatest, and others by a rule.
func sizes() []uint64 {
	list := []uint64{leaves, leaves - 1, leaves - 2, 0x5555555555, 0xaaaaaaaaaa}
	for n := range uint64(70) {
		list = append(list, n)
	}
	for h := range 40 {
		power := uint64(1) << h
		list = append(list, power-1, power, power+1, leaves-power, leaves-1-power)
	}
	for _, r := range byRule(50) {
		list = append(list, r>>24, r>>24>>(r>>20%40))
	}
	return list
}

// beyond are numbers above MaxLeaves.
func beyond() []uint64 {
	list := []uint64{leaves + 1, leaves + 2, 2*leaves - 1, 2 * leaves, most, most - 1, most / 2, most/2 + 1}
	for h := 41; h < 64; h++ {
		list = append(list, 1<<h-1, 1<<h, 1<<h+1, 1<<h+leaves)
	}
	return list
}

// byRule are numbers of 64 bits, the same at each call.
func byRule(count int) []uint64 {
	turn := uint64(1)
	list := make([]uint64, count)
	for i := range list {
		turn = turn*6364136223846793005 + 1442695040888963407
		list[i] = turn
	}
	return list
}

// ranges are some ranges within n: from one of its edges to another, and others by a rule.
func ranges(n uint64) [][2]uint64 {
	edges := []uint64{0, 1, n / 2, n}
	for i, m := range mountains(n) {
		if i < 3 {
			edges = append(edges, end(m))
		}
	}
	if n > 0 {
		edges = append(edges, n-1)
	}
	for _, r := range byRule(6) {
		edges = append(edges, r>>8%(n+1))
	}
	var list [][2]uint64
	for _, lo := range edges {
		for _, hi := range edges {
			if lo <= hi && hi <= n {
				list = append(list, [2]uint64{lo, hi})
			}
		}
	}
	return list
}

// sets are some sets within n, which is 1 or more: of one number, of the edges, of runs, and of numbers by a rule.
func sets(n uint64) [][]uint64 {
	list := [][]uint64{{0}, {n - 1}, {n / 2}}
	var ends, run, spread []uint64
	for _, m := range mountains(n) {
		ends = append(ends, end(m)-1)
	}
	for i := uint64(0); i < min(n, 20); i++ {
		run = append(run, n-min(n, 20)+i)
	}
	for _, r := range byRule(30) {
		spread = append(spread, r>>8%n)
	}
	slices.Sort(spread)
	return append(list, ends, run, slices.Compact(spread))
}

func mustMountains(t *testing.T, promise string, n uint64) []api.Block {
	t.Helper()
	blocks, e := cover.Mountains(n)
	if e != api.OK {
		t.Errorf("%s: Mountains(%d) has the error %v", promise, n, e)
	}
	return blocks
}

func mustRange(t *testing.T, promise string, lo, hi, n uint64) []api.Block {
	t.Helper()
	blocks, e := cover.Range(lo, hi, n)
	if e != api.OK {
		t.Errorf("%s: Range(%d, %d, %d) has the error %v", promise, lo, hi, n, e)
	}
	return blocks
}

func mustRest(t *testing.T, promise string, n uint64, set []uint64) []api.Block {
	t.Helper()
	blocks, e := cover.Rest(n, set)
	if e != api.OK {
		t.Errorf("%s: Rest(%d, %v) has the error %v", promise, n, set, e)
	}
	return blocks
}

func isMountains(t *testing.T, n uint64, want string, wantError api.Errno) {
	t.Helper()
	if got, e := cover.Mountains(n); text(got) != want || e != wantError {
		t.Errorf("P4.1: Mountains(%d) is %q, %v, not %q, %v", n, text(got), e, want, wantError)
	}
}

func isRange(t *testing.T, lo, hi, n uint64, want string, wantError api.Errno) {
	t.Helper()
	if got, e := cover.Range(lo, hi, n); text(got) != want || e != wantError {
		t.Errorf("P4.2: Range(%d, %d, %d) is %q, %v, not %q, %v", lo, hi, n, text(got), e, want, wantError)
	}
}

// isRest looks at Count too.
func isRest(t *testing.T, n uint64, set []uint64, want string, wantError api.Errno) {
	t.Helper()
	if got, e := cover.Rest(n, set); text(got) != want || e != wantError {
		t.Errorf("P4.3: Rest(%d, %v) is %q, %v, not %q, %v", n, set, text(got), e, want, wantError)
	}
	wantCount := uint64(len(strings.Fields(want)))
	if got, e := cover.Count(n, set); got != wantCount || e != wantError {
		t.Errorf("P4.4: Count(%d, %v) is %d, %v, not %d, %v", n, set, got, e, wantCount, wantError)
	}
}

func TestExamples(t *testing.T) {
	isMountains(t, 0, "", api.OK)
	isMountains(t, 1, "0,0", api.OK)
	isMountains(t, 7, "2,0 1,2 0,6", api.OK)
	isMountains(t, 8, "3,0", api.OK)
	isRange(t, 0, 3, 7, "1,0 0,2", api.OK)
	isRange(t, 1, 7, 7, "0,1 1,1 1,2 0,6", api.OK)
	isRange(t, 3, 3, 7, "", api.OK)
	isRange(t, 1, 8, 8, "0,1 1,1 2,1", api.OK)
	isRange(t, 4, 8, 8, "2,1", api.OK)
	isRest(t, 7, []uint64{4}, "2,0 0,5 0,6", api.OK)
	isRest(t, 7, []uint64{0, 6}, "0,1 1,1 1,2", api.OK)
	isRest(t, 3, []uint64{0, 1, 2}, "", api.OK)
	if count, e := cover.Count(1<<40, []uint64{0}); count != 40 || e != api.OK {
		t.Errorf("P4.4: Count(2^40, {0}) is %d, %v", count, e)
	}
}

func TestHardPlaces(t *testing.T) {
	isMountains(t, leaves, "40,0", api.OK)
	isMountains(t, leaves+1, "", api.ErrSize)
	isMountains(t, most, "", api.ErrSize)
	isRange(t, 5, 3, 4, "", api.ErrOrder)
	isRange(t, 5, 6, 4, "", api.ErrIndex)
	isRange(t, most, 0, 0, "", api.ErrOrder)
	isRest(t, 4, []uint64{5, 3}, "", api.ErrSet)
	isRest(t, 4, []uint64{3, 3}, "", api.ErrSet)
	isRest(t, 4, []uint64{4}, "", api.ErrIndex)
	isRest(t, 0, nil, "", api.ErrSet)
	isRest(t, 0, []uint64{}, "", api.ErrSet)
	isRest(t, 0, []uint64{0}, "", api.ErrIndex)
	isRange(t, 2, 6, 6, "1,1 1,2", api.OK)
	isRange(t, 0, 6, 6, "2,0 1,2", api.OK)
}

func TestErrorsOfSizes(t *testing.T) {
	for _, n := range beyond() {
		isMountains(t, n, "", api.ErrSize)
		for _, pair := range [][2]uint64{{0, 0}, {0, 1}, {1, 0}, {0, n}, {n, n}, {n, 0}, {0, most}, {most, most}, {most, 3}, {leaves, leaves}} {
			isRange(t, pair[0], pair[1], n, "", api.ErrSize)
		}
		for _, set := range [][]uint64{nil, {}, {0}, {0, 1}, {1, 0}, {3, 3}, {n}, {n - 1}, {most}, {most, 0}} {
			isRest(t, n, set, "", api.ErrSize)
		}
	}
}

func TestErrorsOfRanges(t *testing.T) {
	for _, n := range sizes() {
		for _, hi := range []uint64{n + 1, n + 2, leaves + 1, most - 1, most} {
			for _, lo := range []uint64{0, 1, n, n + 1, hi, leaves, most - 1, most} {
				isRange(t, lo, hi, n, "", api.ErrIndex)
			}
		}
		for _, hi := range []uint64{0, n / 2, n} {
			for _, lo := range []uint64{hi + 1, hi + 2, n + 1, leaves + 1, most - 1, most} {
				isRange(t, lo, hi, n, "", api.ErrOrder)
			}
		}
	}
}

func TestErrorsOfSets(t *testing.T) {
	for _, n := range sizes() {
		isRest(t, n, nil, "", api.ErrSet)
		isRest(t, n, []uint64{}, "", api.ErrSet)
		for _, set := range [][]uint64{{0, 0}, {1, 0}, {n, n}, {n + 1, n}, {most, 0}, {most, most}, {0, 1, 1}, {0, 2, 1}, {0, 0, 1}, {1, 0, 2}, {0, n + 7, 1, n + 9}, {5, most, 6}, {5, 4, 6, 7, 8}, {4, 5, 6, 8, 7}} {
			isRest(t, n, set, "", api.ErrSet)
		}
		for _, set := range [][]uint64{{n}, {n + 1}, {most}, {n, n + 1}, {leaves, most - 1, most}, {leaves}} {
			isRest(t, n, set, "", api.ErrIndex)
		}
		if n > 0 {
			isRest(t, n, []uint64{n - 1, n}, "", api.ErrIndex)
			isRest(t, n, []uint64{0, most}, "", api.ErrIndex)
		}
	}
}

func TestFewItemsByTheWords(t *testing.T) {
	for n := range uint64(36) {
		isMountains(t, n, text(mountains(n)), api.OK)
		for hi := range n + 1 {
			for lo := range hi + 1 {
				want := largest(n, func(i uint64) bool { return lo <= i && i < hi })
				isRange(t, lo, hi, n, text(want), api.OK)
			}
		}
	}
}

func TestAllSetsOfFewItemsByTheWords(t *testing.T) {
	for n := range uint64(12) {
		for bits := uint64(1); bits < 1<<n; bits++ {
			var set []uint64
			for i := range n {
				if bits>>i&1 == 1 {
					set = append(set, i)
				}
			}
			want := largest(n, func(i uint64) bool { return bits>>i&1 == 0 })
			isRest(t, n, set, text(want), api.OK)
		}
	}
}

func TestManyItems(t *testing.T) {
	for _, n := range sizes() {
		isMountains(t, n, text(mountains(n)), api.OK)
		for _, r := range ranges(n) {
			isRange(t, r[0], r[1], n, text(cutRange(r[0], r[1], n)), api.OK)
		}
		if n > 0 {
			for _, set := range sets(n) {
				isRest(t, n, set, text(cutRest(n, set)), api.OK)
			}
		}
	}
}

// lies looks at blocks that are to have just the items lo to hi - 1 of n, but those of the set: one behind the other.
func lies(t *testing.T, blocks []api.Block, lo, hi, n uint64, set []uint64) {
	t.Helper()
	next := lo
	skip := func(to uint64) {
		for len(set) > 0 && next == set[0] && next < to {
			next, set = next+1, set[1:]
		}
	}
	for i, b := range blocks {
		skip(hi)
		if b.H < 0 || b.H > 40 || first(b) != next {
			t.Errorf("P4.5: within %d from %d to %d: the block %d of %s does not begin at %d", n, lo, hi, i, text(blocks), next)
			return
		}
		next = end(b)
	}
	skip(hi)
	if next != hi || len(set) > 0 {
		t.Errorf("P4.5: within %d from %d to %d: %s ends at %d", n, lo, hi, text(blocks), next)
	}
}

func TestBlocksLieSideBySide(t *testing.T) {
	for _, n := range sizes() {
		lies(t, mustMountains(t, "P4.5", n), 0, n, n, nil)
		for _, r := range ranges(n) {
			lies(t, mustRange(t, "P4.5", r[0], r[1], n), r[0], r[1], n, nil)
		}
		if n > 0 {
			for _, set := range sets(n) {
				lies(t, mustRest(t, "P4.5", n, set), 0, n, n, set)
			}
		}
	}
}

func TestAnswersOfOneAnother(t *testing.T) {
	for _, n := range sizes() {
		all := mustMountains(t, "P4.6", n)
		if got := mustRange(t, "P4.6", 0, n, n); !slices.Equal(got, all) {
			t.Errorf("P4.6: Range(0, %d, %d) is %s, but Mountains %s", n, n, text(got), text(all))
		}
		for _, r := range ranges(n) {
			m := r[0]
			lies(t, append(mustMountains(t, "P4.6", m), mustRange(t, "P4.6", m, n, n)...), 0, n, n, nil)
			if m < n {
				sides := append(mustRange(t, "P4.6", 0, m, n), mustRange(t, "P4.6", m+1, n, n)...)
				if got := mustRest(t, "P4.6", n, []uint64{m}); !slices.Equal(got, sides) {
					t.Errorf("P4.6: Rest(%d, {%d}) is %s, but the two ranges %s", n, m, text(got), text(sides))
				}
			}
		}
	}
}

func atMost(t *testing.T, what string, blocks []api.Block, bound int) {
	t.Helper()
	if len(blocks) > bound {
		t.Errorf("P4.7: %s has %d blocks, more than %d", what, len(blocks), bound)
	}
}

func TestHowManyBlocks(t *testing.T) {
	for _, n := range sizes() {
		atMost(t, "Mountains", mustMountains(t, "P4.7", n), 40)
		for _, r := range ranges(n) {
			atMost(t, "Range", mustRange(t, "P4.7", r[0], r[1], n), 80)
			both := append(mustMountains(t, "P0.5", r[0]), mustRange(t, "P0.5", r[0], n, n)...)
			atMost(t, "a kin of P0.5", both, 128)
		}
		if n > 0 {
			for _, set := range sets(n) {
				atMost(t, "Rest", mustRest(t, "P4.7", n, set), len(set)*num.Ceil(n)+40)
			}
		}
	}
	if got := len(mustMountains(t, "P4.7", leaves-1)); got != 40 {
		t.Errorf("P4.7: Mountains(2^40 - 1) has %d blocks, not 40", got)
	}
	if got := len(mustRange(t, "P4.7", 1, leaves-1, leaves)); got != 78 {
		t.Errorf("P4.7: Range(1, 2^40 - 1, 2^40) has %d blocks, not 78", got)
	}
}

func TestSizeBehindARangeDoesNotMatter(t *testing.T) {
	for _, hi := range sizes() {
		for _, r := range ranges(hi) {
			want := mustRange(t, "P4.8", r[0], hi, hi)
			for _, n := range []uint64{hi, hi + 1, hi + hi/3, 2*hi + 1, leaves - 1, leaves} {
				if n < hi || n > leaves {
					continue
				}
				if got := mustRange(t, "P4.8", r[0], hi, n); !slices.Equal(got, want) {
					t.Errorf("P4.8: Range(%d, %d, %d) is %s, within %d it is %s", r[0], hi, n, text(got), hi, text(want))
				}
			}
		}
	}
	for h := range 41 { // a block of any height that ends by n is an answer of its own
		for _, r := range byRule(20) {
			b := api.Block{H: h, K: r >> 24 >> h}
			isRange(t, first(b), end(b), end(b), text([]api.Block{b}), api.OK)
			isRange(t, first(b), end(b), leaves, text([]api.Block{b}), api.OK)
			isRange(t, first(b), end(b), end(b)+(leaves-end(b))/3, text([]api.Block{b}), api.OK)
		}
	}
}

func TestCountOfSmallSetsWithinAll(t *testing.T) {
	for _, i := range append(sizes(), leaves-1, leaves/2, leaves/2-1) {
		if i == leaves {
			continue
		}
		if got, e := cover.Count(leaves, []uint64{i}); got != 40 || e != api.OK {
			t.Errorf("P4.4: Count(2^40, {%d}) is %d, %v, not 40", i, got, e)
		}
		if i%2 == 0 { // two halves of one block have the siblings of that block alone
			if got, e := cover.Count(leaves, []uint64{i, i + 1}); got != 39 || e != api.OK {
				t.Errorf("P4.4: Count(2^40, {%d, %d}) is %d, %v, not 39", i, i+1, got, e)
			}
		}
	}
	if got, e := cover.Count(leaves, []uint64{0, leaves - 1}); got != 78 || e != api.OK {
		t.Errorf("P4.4: Count(2^40, {0, 2^40 - 1}) is %d, %v, not 78", got, e)
	}
}

// every is the set of so many numbers, step apart.
func every(step uint64, count int) []uint64 {
	set := make([]uint64, count)
	for i := range set {
		set[i] = uint64(i) * step
	}
	return set
}

func TestCountAgainstRest(t *testing.T) {
	for _, n := range append(sizes(), 100000, 65536, 65535) {
		if n == 0 {
			continue
		}
		for _, set := range append(sets(n), every(n/1000+1, int(min(n, 990))), every(1, int(min(n, 2000)))) {
			for len(set) > 0 && set[len(set)-1] >= n {
				set = set[:len(set)-1]
			}
			blocks := mustRest(t, "P4.4", n, set)
			if got, e := cover.Count(n, set); got != uint64(len(blocks)) || e != api.OK {
				t.Errorf("P4.4: Count of %d numbers within %d is %d, %v, but Rest has %d blocks", len(set), n, got, e, len(blocks))
			}
		}
	}
}

func TestCountLaysNoList(t *testing.T) {
	set := every(leaves>>16, 1<<16)
	var before, after runtime.MemStats
	runtime.ReadMemStats(&before)
	count, e := cover.Count(leaves, set)
	runtime.ReadMemStats(&after)
	if want := uint64(24 << 16); count != want || e != api.OK {
		t.Errorf("P4.4: Count of 2^16 numbers is %d, %v, not %d", count, e, want)
	}
	if room := after.TotalAlloc - before.TotalAlloc; room > 1<<18 {
		t.Errorf("P4.4: Count has taken %d bytes of room", room)
	}
}

func TestCountTakesFewSteps(t *testing.T) {
	set := every(leaves>>20, 1<<20)
	began := time.Now()
	count, e := cover.Count(leaves, set)
	if want := uint64(20 << 20); count != want || e != api.OK {
		t.Errorf("P4.4: Count of 2^20 numbers is %d, %v, not %d", count, e, want)
	}
	if took := time.Since(began); took > 20*time.Second { // some 43 million steps
		t.Errorf("P4.4: Count of 2^20 numbers took %v", took)
	}
}

func TestSetsStayAsTheyWere(t *testing.T) {
	room := []uint64{2, 3, 5, 7, 11, 13}
	for _, n := range []uint64{0, 3, 8, 16, leaves, most} {
		for _, count := range []int{0, 1, 3, 4, 6} {
			cover.Rest(n, room[:count])
			cover.Count(n, room[:count])
			if !slices.Equal(room, []uint64{2, 3, 5, 7, 11, 13}) {
				t.Fatalf("P4.9: Rest or Count of %d numbers within %d has written %v", count, n, room)
			}
		}
	}
}

func TestAnswersAreNew(t *testing.T) {
	set := []uint64{3, 9, 10}
	for name, answer := range map[string]func() []api.Block{
		"Mountains": func() []api.Block { return mustMountains(t, "P4.9", 29) },
		"Range":     func() []api.Block { return mustRange(t, "P4.9", 3, 28, 29) },
		"Rest":      func() []api.Block { return mustRest(t, "P4.9", 29, set) },
	} {
		one, other := answer(), answer()
		want := text(one)
		if text(other) != want {
			t.Errorf("R11: %s answers %s, then %s", name, want, text(other))
		}
		room := one[:cap(one)]
		for i := range room {
			room[i] = api.Block{H: -7, K: 77}
		}
		if text(other[:len(other)]) != want || text(answer()) != want {
			t.Errorf("P4.9: an answer of %s that is written to changes another: %s, not %s", name, text(other), want)
		}
	}
	blocks := mustRest(t, "P4.9", 29, set)
	want := text(blocks)
	set[0], set[1], set[2] = 0, 1, 2
	if text(blocks) != want {
		t.Errorf("P4.9: a set that is written to changes the answer: %s, not %s", text(blocks), want)
	}
}
