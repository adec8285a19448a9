package place_test

import (
	"math"
	"math/bits"
	"slices"
	"testing"

	"massif/api"
	"massif/place"
)

const (
	leaves = uint64(api.MaxLeaves)
	most   = uint64(math.MaxUint64)
	last   = 2*leaves - 2 // the last place that may be
)

// row is the tree of a block as the document's words lay it: the left child's tree, the right child's tree, then the node itself.
func row(h int, k uint64) []api.Block {
	if h == 0 {
		return []api.Block{{H: 0, K: k}}
	}
	return append(append(row(h-1, 2*k), row(h-1, 2*k+1)...), api.Block{H: h, K: k})
}

// rowFromEnd are the last places' blocks, the last place first: each node, then what stands ahead of it.
func rowFromEnd(count int) []api.Block {
	wait := []api.Block{{H: 40, K: 0}}
	var found []api.Block
	for len(found) < count {
		b := wait[len(wait)-1]
		wait = wait[:len(wait)-1]
		found = append(found, b)
		if b.H > 0 {
			wait = append(wait, api.Block{H: b.H - 1, K: 2 * b.K}, api.Block{H: b.H - 1, K: 2*b.K + 1})
		}
	}
	return found
}

// sizes are numbers up to MaxLeaves: the first ones, those about every power of two, the greatest, runs of ones, and others by a rule.
func sizes() []uint64 {
	list := []uint64{leaves, 0x5555555555, 0xaaaaaaaaaa}
	for n := range uint64(3000) {
		list = append(list, n, leaves-1-n)
	}
	for h := range 40 {
		power := uint64(1) << h
		list = append(list, power-1, power, power+1, leaves-power, leaves-1-power)
	}
	turn := uint64(1)
	for range 2000 {
		turn = turn*6364136223846793005 + 1442695040888963407
		list = append(list, turn>>24, turn>>24>>(turn>>20%40))
	}
	return list
}

// beyond are numbers above MaxLeaves.
func beyond() []uint64 {
	list := []uint64{leaves + 1, leaves + 2, 2*leaves - 2, 2*leaves - 1, 2 * leaves, most, most - 1, most / 2, most/2 + 1, most/2 + 2}
	for h := 41; h < 64; h++ {
		list = append(list, 1<<h-1, 1<<h, 1<<h+1, 1<<h+leaves)
	}
	return list
}

// blocks are blocks that may be, of every height: the first ones, the last ones, and others by a rule.
func blocks() []api.Block {
	var list []api.Block
	turn := uint64(1)
	for h := range 41 {
		count := leaves >> h
		for k := range min(count, 20) {
			list = append(list, api.Block{H: h, K: k}, api.Block{H: h, K: count - 1 - k})
		}
		for range 50 {
			turn = turn*6364136223846793005 + 1442695040888963407
			list = append(list, api.Block{H: h, K: turn >> 24 >> h})
		}
	}
	return list
}

// notBlocks are blocks that may not be.
func notBlocks() []api.Block {
	list := []api.Block{{H: 40, K: 1}, {H: 41, K: 0}, {H: -1, K: 0}, {H: 0, K: leaves}, {H: 1, K: 1 << 63}, {H: 39, K: 2}}
	for h := range 41 {
		list = append(list, api.Block{H: h, K: leaves >> h}, api.Block{H: h, K: leaves>>h + 1}, api.Block{H: h, K: most}, api.Block{H: h, K: most - 1}, api.Block{H: h, K: most / 2})
		list = append(list, api.Block{H: h, K: most >> h}, api.Block{H: h, K: most>>h - 1}, api.Block{H: h, K: (most >> h) &^ 1}, api.Block{H: h, K: 1 << 63 >> h})
		if h > 0 { // K + 1 blocks of this height have so many items that their number wraps to few
			list = append(list, api.Block{H: h, K: 1 << (64 - h)}, api.Block{H: h, K: 1<<(64-h) - 1}, api.Block{H: h, K: 1<<(64-h) + 1})
		}
	}
	for _, h := range []int{41, 42, 62, 63, 64, 65, 104, 128, 256, 1 << 32, 1<<32 + 1, math.MaxInt, -1, -2, -40, -41, -63, -64, math.MinInt, math.MinInt + 1} {
		list = append(list, api.Block{H: h, K: 0}, api.Block{H: h, K: 1}, api.Block{H: h, K: most})
	}
	return list
}

func mustOf(t *testing.T, promise string, b api.Block) uint64 {
	t.Helper()
	p, ok := place.Of(b)
	if !ok {
		t.Errorf("%s: Of(%v) is false", promise, b)
	}
	return p
}

func mustNodes(t *testing.T, promise string, n uint64) uint64 {
	t.Helper()
	count, ok := place.Nodes(n)
	if !ok {
		t.Errorf("%s: Nodes(%d) is false", promise, n)
	}
	return count
}

func isNodes(t *testing.T, n, want uint64, wantOK bool) {
	t.Helper()
	if got, ok := place.Nodes(n); got != want || ok != wantOK {
		t.Errorf("P3.1: Nodes(%d) is %d, %v, not %d, %v", n, got, ok, want, wantOK)
	}
}

func isLeaf(t *testing.T, i, want uint64, wantOK bool) {
	t.Helper()
	if got, ok := place.Leaf(i); got != want || ok != wantOK {
		t.Errorf("P3.1: Leaf(%d) is %d, %v, not %d, %v", i, got, ok, want, wantOK)
	}
}

func isOf(t *testing.T, b api.Block, want uint64, wantOK bool) {
	t.Helper()
	if got, ok := place.Of(b); got != want || ok != wantOK {
		t.Errorf("P3.1: Of(%v) is %d, %v, not %d, %v", b, got, ok, want, wantOK)
	}
}

// isBlock looks at Height too.
func isBlock(t *testing.T, p uint64, want api.Block, wantOK bool) {
	t.Helper()
	if got, ok := place.Block(p); got != want || ok != wantOK {
		t.Errorf("P3.1: Block(%d) is %v, %v, not %v, %v", p, got, ok, want, wantOK)
	}
	if got, ok := place.Height(p); got != want.H || ok != wantOK {
		t.Errorf("P3.1: Height(%d) is %d, %v, not %d, %v", p, got, ok, want.H, wantOK)
	}
}

func isParent(t *testing.T, p, want uint64, wantOK bool) {
	t.Helper()
	if got, ok := place.Parent(p); got != want || ok != wantOK {
		t.Errorf("P3.1: Parent(%d) is %d, %v, not %d, %v", p, got, ok, want, wantOK)
	}
}

func isSibling(t *testing.T, p, want uint64, wantOK bool) {
	t.Helper()
	if got, ok := place.Sibling(p); got != want || ok != wantOK {
		t.Errorf("P3.1: Sibling(%d) is %d, %v, not %d, %v", p, got, ok, want, wantOK)
	}
}

func isPeaks(t *testing.T, n uint64, want ...uint64) {
	t.Helper()
	if got := place.Peaks(n); !slices.Equal(got, want) {
		t.Errorf("P3.1: Peaks(%d) is %v, not %v", n, got, want)
	}
}

func TestExamples(t *testing.T) {
	for n, want := range map[uint64]uint64{0: 0, 1: 1, 2: 3, 3: 4, 4: 7, 5: 8, 7: 11, 8: 15} {
		isNodes(t, n, want, true)
	}
	for i, want := range []uint64{0, 1, 3, 4, 7, 8} {
		isLeaf(t, uint64(i), want, true)
	}
	isOf(t, api.Block{H: 1, K: 0}, 2, true)
	isOf(t, api.Block{H: 2, K: 0}, 6, true)
	isOf(t, api.Block{H: 1, K: 2}, 9, true)
	isOf(t, api.Block{H: 0, K: 5}, 8, true)
	isBlock(t, 6, api.Block{H: 2, K: 0}, true)
	isBlock(t, 5, api.Block{H: 1, K: 1}, true)
	isBlock(t, 7, api.Block{H: 0, K: 4}, true)
	isBlock(t, 14, api.Block{H: 3, K: 0}, true)
	for p, want := range map[uint64]uint64{0: 2, 1: 2, 2: 6, 5: 6, 6: 14} {
		isParent(t, p, want, true)
	}
	for p, want := range map[uint64]uint64{0: 1, 4: 3, 2: 5, 6: 13} {
		isSibling(t, p, want, true)
	}
	isPeaks(t, 7, 6, 9, 10)
	isPeaks(t, 8, 14)
	isPeaks(t, 3, 2, 3)
	isPeaks(t, 0)
}

func TestBounds(t *testing.T) {
	isNodes(t, leaves, 1<<41-1, true)
	isLeaf(t, leaves-1, 1<<41-42, true)
	isLeaf(t, leaves, 0, false)
	isPeaks(t, leaves, last)
	for _, n := range beyond() {
		isNodes(t, n, 0, false)
		isLeaf(t, n, 0, false)
		isPeaks(t, n)
	}
	isOf(t, api.Block{H: 40, K: 0}, 1<<41-2, true)
	for _, b := range notBlocks() {
		isOf(t, b, 0, false)
	}
	isBlock(t, last, api.Block{H: 40, K: 0}, true)
	isParent(t, last, 0, false)
	isSibling(t, last, 0, false)
	isParent(t, last-1, last, true)
	isSibling(t, last-1, leaves-2, true)
	isSibling(t, leaves-2, last-1, true)
	for _, p := range append(beyond(), last+1, last+2, last+3) {
		if p <= last {
			continue
		}
		isBlock(t, p, api.Block{}, false)
		isParent(t, p, 0, false)
		isSibling(t, p, 0, false)
	}
}

func TestRow(t *testing.T) {
	const height = 14
	tree := row(height, 0)
	for p, b := range tree[:len(tree)-1] {
		isSame(t, uint64(p), b)
	}
	for back, b := range rowFromEnd(20000) {
		p := last - uint64(back)
		isOf(t, b, p, true)
		isBlock(t, p, b, true)
		if b.H < 40 {
			isKin(t, p, b)
		}
	}
	count := uint64(0)
	for p, b := range tree {
		if b.H == 0 {
			isLeaf(t, count, uint64(p), true)
			isNodes(t, count, uint64(p), true)
			count++
		}
	}
	isNodes(t, count, uint64(len(tree)), true)
}

// isSame holds the block that the row has at p against all that is told of the place.
func isSame(t *testing.T, p uint64, b api.Block) {
	t.Helper()
	isOf(t, b, p, true)
	isBlock(t, p, b, true)
	isKin(t, p, b)
}

// isKin holds the parent's and the sibling's places against those of their blocks.
func isKin(t *testing.T, p uint64, b api.Block) {
	t.Helper()
	isParent(t, p, mustOf(t, "P3.1", api.Block{H: b.H + 1, K: b.K / 2}), true)
	other := api.Block{H: b.H, K: b.K + 1}
	if b.K%2 == 1 {
		other.K = b.K - 1
	}
	isSibling(t, p, mustOf(t, "P3.1", other), true)
}

func TestThereAndBack(t *testing.T) {
	for _, b := range blocks() {
		p, ok := place.Of(b)
		back, yes := place.Block(p)
		if !ok || !yes || back != b || p > last {
			t.Errorf("P3.2: Of(%v) is %d, %v, and Block of that %v, %v", b, p, ok, back, yes)
		}
		if b.H < 40 {
			isKin(t, p, b)
		}
	}
	for _, n := range sizes() {
		for _, p := range []uint64{n, 2 * n, 2*n + 1, last - n, leaves + n} {
			if p > last {
				continue
			}
			b, ok := place.Block(p)
			back, yes := place.Of(b)
			if !ok || !yes || back != p {
				t.Errorf("P3.2: Block(%d) is %v, %v, and Of that %d, %v", p, b, ok, back, yes)
			}
		}
	}
}

func TestPostorder(t *testing.T) {
	for _, b := range blocks() {
		if b.H == 0 {
			continue
		}
		p := mustOf(t, "P3.3", b)
		left := mustOf(t, "P3.3", api.Block{H: b.H - 1, K: 2 * b.K})
		right := mustOf(t, "P3.3", api.Block{H: b.H - 1, K: 2*b.K + 1})
		if p-right != 1 || p-left != 1<<b.H {
			t.Errorf("P3.3: the node of %v stands at %d, its children at %d and %d", b, p, left, right)
		}
	}
	for _, b := range blocks() {
		if b.H > 5 {
			continue
		}
		tree := row(b.H, b.K)
		first := mustOf(t, "P3.3", b) + 1 - uint64(len(tree))
		for i, inner := range tree {
			if p := mustOf(t, "P3.3", inner); p != first+uint64(i) {
				t.Errorf("P3.3: in the tree of %v, which begins at %d, the node of %v stands at %d", b, first, inner, p)
			}
		}
	}
}

func TestGrowing(t *testing.T) {
	for _, n := range sizes() {
		count := mustNodes(t, "P3.4", n)
		if n < leaves {
			next := mustNodes(t, "P3.4", n+1)
			if want := count + 1 + uint64(bits.TrailingZeros64(^n)); next != want {
				t.Errorf("P3.4: Nodes(%d) is %d, and of one more %d, not %d", n, count, next, want)
			}
			if leaf, ok := place.Leaf(n); leaf != count || !ok {
				t.Errorf("P3.4: Leaf(%d) is %d, %v, and Nodes of it %d", n, leaf, ok, count)
			}
			if b, ok := place.Block(count); b != (api.Block{H: 0, K: n}) || !ok {
				t.Errorf("P3.4: the first node of the item %d is that of %v, %v", n, b, ok)
			}
		}
		if peaks := place.Peaks(n); n > 0 && (len(peaks) == 0 || peaks[len(peaks)-1] != count-1) {
			t.Errorf("P3.4: of %d items' %d nodes the peaks are %v", n, count, peaks)
		}
	}
}

func TestPeaks(t *testing.T) {
	for _, n := range sizes() {
		peaks := place.Peaks(n)
		if len(peaks) != bits.OnesCount64(n) {
			t.Errorf("P3.5: %d has %d ones and %d peaks", n, bits.OnesCount64(n), len(peaks))
			continue
		}
		rest, filled := n, uint64(0)
		for _, p := range peaks {
			h, ok := place.Height(p)
			if want := bits.Len64(rest) - 1; h != want || !ok {
				t.Errorf("P3.5: Peaks(%d) are %v: the height of %d is %d, %v, not %d", n, peaks, p, h, ok, want)
				break
			}
			rest -= 1 << h
			filled += 2<<h - 1
			if p != filled-1 {
				t.Errorf("P3.5: Peaks(%d) are %v: %d is not the end of a tree of height %d side by side with those ahead", n, peaks, p, h)
			}
		}
		if count := mustNodes(t, "P3.5", n); filled != count {
			t.Errorf("P3.5: the trees under %d's peaks fill %d places of %d", n, filled, count)
		}
	}
}

func TestMemory(t *testing.T) {
	for _, n := range []uint64{1, 3, 7, 8, 1000, leaves - 1, leaves} {
		want := slices.Clone(place.Peaks(n))
		one, two := place.Peaks(n), place.Peaks(n)
		for i := range one {
			one[i] = most
		}
		one = append(one, most)
		if !slices.Equal(two, want) || !slices.Equal(place.Peaks(n), want) {
			t.Errorf("P3.6: a list of Peaks(%d), of which another was written to, is %v, then %v, not %v", n, two, place.Peaks(n), want)
		}
		two = append(two, 5)
		if one[len(one)-1] != most {
			t.Errorf("P3.6: two lists of Peaks(%d) share the room behind them", n)
		}
	}
}
