package hint_test

import (
	"cmp"
	"iter"
	"math"
	"math/rand/v2"
	"slices"
	"testing"

	"berthing/api"
	"berthing/hint"
)

const (
	all        = 8
	mostBlocks = 1 << 30
	least      = math.MinInt
	most       = math.MaxInt
)

var (
	none    api.Spread
	nothing [2]int
	// brim: as much as there can be, on each node.
	brim = api.Spread{mostBlocks, mostBlocks, mostBlocks, mostBlocks, mostBlocks, mostBlocks, mostBlocks, mostBlocks}
)

// masks: of each one its nodes, rising, in this file's own means: by the remainder and halves, without a bit.
var masks = func() [256][]int {
	var masks [256][]int
	for m := range masks {
		rest := m
		for node := range all {
			if rest%2 == 1 {
				masks[m] = append(masks[m], node)
			}
			rest /= 2
		}
	}
	return masks
}()

// nodesOf a mask from 0 to 255.
func nodesOf(m int) []int {
	return masks[m]
}

// within: are all of these among those?
func within(these, those []int) bool {
	for _, node := range these {
		if !slices.Contains(those, node) {
			return false
		}
	}
	return true
}

// enough of each kind, by the chapter's words, said again.
func enough(free [2]api.Spread, m int, need [2]int) bool {
	var sums [2]int
	for _, node := range nodesOf(m) {
		sums[0] += free[0][node]
		sums[1] += free[1][node]
	}
	return sums[0] >= need[0] && sums[1] >= need[1]
}

// inOrder: all masks, those that are ahead of others ahead of them.
var inOrder = func() []int {
	var l []int
	for m := range 256 {
		l = append(l, m)
	}
	slices.SortFunc(l, func(a, b int) int {
		return cmp.Or(cmp.Compare(len(nodesOf(a)), len(nodesOf(b))), cmp.Compare(a, b))
	})
	return l
}()

// hints of the first so many nodes that have all of held, in their order.
func hints(free [2]api.Spread, nodes, held int, need [2]int) []int {
	var first, l []int
	for node := range nodes {
		first = append(first, node)
	}
	for _, m := range inOrder {
		if within(nodesOf(m), first) && within(nodesOf(held), nodesOf(m)) && enough(free, m, need) {
			l = append(l, m)
		}
	}
	return l
}

// over a mask, block by block.
func over(free api.Spread, m, need int) (api.Spread, bool) {
	var s api.Spread
	for _, node := range nodesOf(m) {
		for need > 0 && s[node] < free[node] {
			s[node]++
			need--
		}
	}
	if need > 0 {
		return none, false
	}
	return s, true
}

// check holds all that is told of one question against the chapter's words.
func check(t *testing.T, free [2]api.Spread, nodes int, need [2]int) {
	t.Helper()
	checkHints(t, free, nodes, need)
	for held := range 256 {
		var want int
		l := hints(free, nodes, held, need)
		if len(l) > 0 {
			want = l[0]
		}
		if m, ok := hint.With(free, nodes, held, need); m != want || ok != (len(l) > 0) {
			t.Fatalf("With(%v, %d, %d, %v): %d, %v; want %d", free, nodes, held, need, m, ok, want)
		}
		if got := hint.Enough(free, held, need); got != enough(free, held, need) {
			t.Fatalf("Enough(%v, %d, %v): %v", free, held, need, got)
		}
	}
}

// checkHints holds Hint and Hints against the chapter's words.
func checkHints(t *testing.T, free [2]api.Spread, nodes int, need [2]int) {
	t.Helper()
	l := hints(free, nodes, 0, need)
	if got := slices.Collect(hint.Hints(free, nodes, need)); !slices.Equal(got, l) {
		t.Fatalf("Hints(%v, %d, %v): %v, want %v", free, nodes, need, got, l)
	}
	want := 0
	if len(l) > 0 {
		want = l[0]
	}
	if m, ok := hint.Hint(free, nodes, need); m != want || ok != (len(l) > 0) {
		t.Fatalf("Hint(%v, %d, %v): %d, %v; want %d", free, nodes, need, m, ok, want)
	}
}

// refused: such an argument that each call tells nothing.
func refused(t *testing.T, free [2]api.Spread, nodes, held int, need [2]int) {
	t.Helper()
	if m, ok := hint.With(free, nodes, held, need); m != 0 || ok {
		t.Errorf("With(%v, %d, %d, %v): %d, %v", free, nodes, held, need, m, ok)
	}
	if held != 0 {
		return
	}
	if m, ok := hint.Hint(free, nodes, need); m != 0 || ok {
		t.Errorf("Hint(%v, %d, %v): %d, %v", free, nodes, need, m, ok)
	}
	if l := slices.Collect(hint.Hints(free, nodes, need)); len(l) != 0 {
		t.Errorf("Hints(%v, %d, %v): %v", free, nodes, need, l)
	}
}

// wrongNumbers of blocks, also such of which a narrower kind would keep a right one.
func wrongNumbers() []int {
	return []int{-1, -2, -mostBlocks, -1 << 32, least, least + 1, mostBlocks + 1, 1 << 31, 1 << 32, 1<<32 + 1, 1 << 62, most - 1, most}
}

// wrongMasks: numbers that are none, also such whose lowest eight bits are those of one.
func wrongMasks() []int {
	return []int{-1, -2, -128, -255, -256, least, least + 1, least + 255, 256, 257, 263, 511, 512, 1 << 16, 1 << 32, 1<<32 + 3, most - 255, most}
}

// wrongCounts of nodes.
func wrongCounts() []int {
	return []int{-1, -2, -8, -256, -255, -64, least, least + 1, least + 8, 9, 10, 16, 63, 64, 65, 255, 256, 257, 264, 1 << 32, 1<<32 + 4, most - 1, most}
}

func TestP9_1Enough(t *testing.T) {
	free := [2]api.Spread{{4, 2, 9, 0}, {0, 3, 1, 1}}
	for i, x := range []struct {
		m    int
		need [2]int
		want bool
	}{
		// Nothing needed, of both kinds and of one.
		{0, nothing, true}, {1, nothing, true}, {128, nothing, true}, {255, nothing, true}, {0, [2]int{1, 0}, false}, {0, [2]int{0, 1}, false}, {1, [2]int{1, 0}, true}, {1, [2]int{0, 1}, false}, {8, [2]int{0, 1}, true}, {8, [2]int{1, 0}, false},
		// Just as much as is free, one less, one more; alone, and added up.
		{1, [2]int{3, 0}, true}, {1, [2]int{4, 0}, true}, {1, [2]int{5, 0}, false}, {2, [2]int{2, 3}, true}, {2, [2]int{3, 3}, false}, {2, [2]int{2, 4}, false}, {5, [2]int{13, 1}, true}, {5, [2]int{14, 1}, false}, {5, [2]int{13, 2}, false},
		{7, [2]int{15, 4}, true}, {7, [2]int{15, 5}, false}, {15, [2]int{15, 5}, true}, {15, [2]int{16, 5}, false}, {15, [2]int{15, 6}, false}, {15, [2]int{16, 6}, false}, {255, [2]int{15, 5}, true}, {255, [2]int{16, 5}, false}, {255, [2]int{15, 6}, false},
		// Nodes that have none.
		{240, [2]int{0, 0}, true}, {240, [2]int{1, 0}, false}, {248, [2]int{0, 1}, true}, {128, [2]int{1, 1}, false},
		{255, [2]int{mostBlocks, 0}, false}, {255, [2]int{0, mostBlocks}, false},
	} {
		if got := hint.Enough(free, x.m, x.need); got != x.want {
			t.Errorf("%d: Enough(%d, %v): %v", i, x.m, x.need, got)
		}
	}
}

// Of each kind its own is asked, and the kinds don't make up for one another.
func TestP9_1EnoughOfEachKind(t *testing.T) {
	for _, free := range [][2]api.Spread{{{5}, {3}}, {{3}, {5}}, {{8}, {0}}, {{0}, {8}}, {{0, 0, 0, 0, 0, 0, 0, 5}, {0, 0, 0, 0, 0, 0, 0, 3}}} {
		for a := range 10 {
			for b := range 10 {
				for _, m := range []int{0, 1, 128, 129, 255} {
					if got := hint.Enough(free, m, [2]int{a, b}); got != enough(free, m, [2]int{a, b}) {
						t.Errorf("Enough(%v, %d, [%d %d]): %v", free, m, a, b, got)
					}
				}
			}
		}
	}
}

// Where there is most of all, that is right, and adds up above what one may need.
func TestP9_1Most(t *testing.T) {
	full := [2]int{mostBlocks, mostBlocks}
	for node := range all {
		m := 1 << node
		var one api.Spread
		one[node] = mostBlocks
		for i, x := range []struct {
			free [2]api.Spread
			need [2]int
			want bool
		}{
			{[2]api.Spread{brim, brim}, full, true}, {[2]api.Spread{one, one}, full, true}, {[2]api.Spread{brim, one}, full, true},
			{[2]api.Spread{one, none}, full, false}, {[2]api.Spread{none, one}, full, false}, {[2]api.Spread{one, none}, [2]int{mostBlocks, 0}, true}, {[2]api.Spread{none, one}, [2]int{0, mostBlocks}, true},
			{[2]api.Spread{none, none}, nothing, true}, {[2]api.Spread{brim, brim}, nothing, true}, {[2]api.Spread{none, none}, [2]int{1, 0}, false}, {[2]api.Spread{none, none}, [2]int{0, 1}, false},
		} {
			if got := hint.Enough(x.free, m, x.need); got != x.want {
				t.Errorf("%d: Enough(%v, %d, %v): %v", i, x.free, m, x.need, got)
			}
			if got := hint.Enough(x.free, 255, x.need); got != x.want {
				t.Errorf("%d: Enough(%v, 255, %v): %v", i, x.free, x.need, got)
			}
			check(t, x.free, all, x.need)
		}
	}
	// One short of the most on one node, the one on another.
	short := [2]api.Spread{{mostBlocks - 1, 1}, {1, mostBlocks - 1}}
	for m, want := range map[int]bool{0: false, 1: false, 2: false, 3: true, 255: true, 254: false, 253: false} {
		if got := hint.Enough(short, m, full); got != want {
			t.Errorf("Enough(%v, %d, %v): %v", short, m, full, got)
		}
	}
	for nodes := range all + 1 {
		check(t, short, nodes, full)
	}
}

// A wrong number of what is free, of either kind, on any node, whether or not it is asked for.
func TestP9_1WrongFree(t *testing.T) {
	for _, wrong := range wrongNumbers() {
		for kind := range 2 {
			for node := range all {
				for _, other := range []api.Spread{none, {4, 2, 9}, brim} {
					free := [2]api.Spread{other, other}
					free[kind][node] = wrong
					for _, need := range [][2]int{nothing, {1, 0}, {0, 1}, {mostBlocks, mostBlocks}} {
						for _, m := range []int{0, 1 << node, 255 - 1<<node, 255} {
							if hint.Enough(free, m, need) {
								t.Errorf("Enough(%v, %d, %v)", free, m, need)
							}
						}
						for _, nodes := range []int{0, node, node + 1, all} {
							refused(t, free, nodes, 0, need)
						}
						refused(t, free, all, 255, need)
					}
				}
			}
		}
	}
}

// A wrong number of what is needed, of either kind, even where more is free.
func TestP9_1WrongNeed(t *testing.T) {
	for _, wrong := range wrongNumbers() {
		for _, other := range []int{0, 1, mostBlocks, wrong} {
			for _, need := range [][2]int{{wrong, other}, {other, wrong}} {
				for _, s := range []api.Spread{none, {4, 2, 9}, brim} {
					free := [2]api.Spread{s, s}
					for _, m := range []int{0, 1, 128, 255} {
						if hint.Enough(free, m, need) {
							t.Errorf("Enough(%v, %d, %v)", free, m, need)
						}
					}
					for _, nodes := range []int{0, 1, all} {
						refused(t, free, nodes, 0, need)
					}
					refused(t, free, all, 255, need)
				}
			}
		}
	}
}

func TestP9_1WrongMask(t *testing.T) {
	for _, m := range wrongMasks() {
		for _, s := range []api.Spread{none, {4, 2, 9}, brim} {
			free := [2]api.Spread{s, s}
			for _, need := range [][2]int{nothing, {1, 0}, {0, 1}} {
				if hint.Enough(free, m, need) {
					t.Errorf("Enough(%v, %d, %v)", free, m, need)
				}
				for _, nodes := range []int{0, 1, all} {
					refused(t, free, nodes, m, need)
				}
			}
		}
	}
}

func TestP9_1WrongCount(t *testing.T) {
	for _, nodes := range wrongCounts() {
		for _, s := range []api.Spread{none, {4, 2, 9}, brim} {
			free := [2]api.Spread{s, s}
			for _, need := range [][2]int{nothing, {1, 0}, {0, 1}} {
				for _, held := range []int{0, 1, 128, 255} {
					refused(t, free, nodes, held, need)
				}
			}
		}
	}
}

func TestP9_1Hint(t *testing.T) {
	free := [2]api.Spread{{4, 2, 9, 0}, {0, 3, 1, 1}}
	for i, x := range []struct {
		free  [2]api.Spread
		nodes int
		need  [2]int
		want  int
		ok    bool
	}{
		// The chapter's example.
		{[2]api.Spread{{4, 2, 9}}, 3, [2]int{6, 0}, 4, true}, {[2]api.Spread{{4, 2, 9}}, 8, [2]int{6, 0}, 4, true}, {[2]api.Spread{1: {4, 2, 9}}, 3, [2]int{0, 6}, 4, true}, {[2]api.Spread{{4, 2, 9}}, 2, [2]int{6, 0}, 3, true},
		// One alone; two of which each is enough: the lesser one.
		{free, 4, [2]int{9, 0}, 4, true}, {free, 4, [2]int{3, 0}, 1, true}, {free, 4, [2]int{4, 0}, 1, true}, {free, 4, [2]int{5, 0}, 4, true}, {free, 4, [2]int{0, 1}, 2, true}, {free, 4, [2]int{1, 1}, 2, true}, {free, 4, [2]int{3, 1}, 4, true}, {free, 3, [2]int{2, 3}, 2, true},
		{[2]api.Spread{{5, 5}}, 2, [2]int{5, 0}, 1, true}, {[2]api.Spread{{0, 5, 5}}, 3, [2]int{5, 0}, 2, true}, {[2]api.Spread{{6: 5, 7: 5}}, 8, [2]int{5, 0}, 64, true},
		// Two together, of which pairs there are several.
		{free, 4, [2]int{10, 0}, 5, true}, {free, 4, [2]int{11, 0}, 5, true}, {free, 4, [2]int{13, 0}, 5, true}, {free, 4, [2]int{14, 0}, 7, true}, {free, 4, [2]int{15, 0}, 7, true}, {free, 4, [2]int{3, 3}, 3, true}, {free, 4, [2]int{0, 4}, 6, true}, {free, 4, [2]int{9, 2}, 6, true}, {free, 4, [2]int{15, 5}, 15, true},
		// One node less, though of a greater number, is ahead.
		{[2]api.Spread{{1, 1, 1, 1, 1, 1, 1, 7}}, 8, [2]int{7, 0}, 128, true}, {[2]api.Spread{{1, 1, 1, 1, 1, 1, 1, 7}}, 8, [2]int{8, 0}, 129, true}, {[2]api.Spread{{1, 1, 1, 1, 1, 1, 1, 7}}, 7, [2]int{7, 0}, 127, true}, {[2]api.Spread{{1, 1, 1, 1, 1, 1, 1, 7}}, 8, [2]int{14, 0}, 255, true},
		// None.
		{free, 4, [2]int{16, 0}, 0, false}, {free, 4, [2]int{0, 6}, 0, false}, {free, 8, [2]int{15, 6}, 0, false}, {free, 3, [2]int{0, 5}, 0, false}, {free, 2, [2]int{7, 0}, 0, false}, {free, 1, [2]int{0, 1}, 0, false}, {free, 1, [2]int{5, 0}, 0, false}, {free, 8, [2]int{mostBlocks, 0}, 0, false},
		// Nothing needed.
		{free, 4, nothing, 0, true}, {free, 8, nothing, 0, true}, {free, 1, nothing, 0, true}, {[2]api.Spread{}, 8, nothing, 0, true},
		// No nodes, one.
		{free, 0, nothing, 0, true}, {free, 0, [2]int{1, 0}, 0, false}, {free, 0, [2]int{0, 1}, 0, false}, {free, 1, [2]int{1, 0}, 1, true}, {free, 1, [2]int{4, 0}, 1, true},
	} {
		if m, ok := hint.Hint(x.free, x.nodes, x.need); m != x.want || ok != x.ok {
			t.Errorf("%d: Hint(%v, %d, %v): %d, %v; want %d", i, x.free, x.nodes, x.need, m, ok, x.want)
		}
		if m, ok := hint.With(x.free, x.nodes, 0, x.need); m != x.want || ok != x.ok {
			t.Errorf("%d: With(%v, %d, 0, %v): %d, %v; want %d", i, x.free, x.nodes, x.need, m, ok, x.want)
		}
	}
}

func TestP9_1With(t *testing.T) {
	free := [2]api.Spread{{4, 2, 9, 0}, {0, 3, 1, 1}}
	for i, x := range []struct {
		nodes, held int
		need        [2]int
		want        int
		ok          bool
	}{
		// Enough by themselves, needed or not: held alone, though others are ahead.
		{4, 1, nothing, 1, true}, {4, 8, nothing, 8, true}, {4, 9, nothing, 9, true}, {4, 6, [2]int{5, 0}, 6, true}, {4, 3, [2]int{6, 3}, 3, true}, {4, 14, [2]int{1, 0}, 14, true}, {4, 5, [2]int{13, 1}, 5, true},
		// One more than they have: with the least one that is enough, and with as few as are.
		{4, 8, [2]int{4, 0}, 9, true}, {4, 8, [2]int{5, 0}, 12, true}, {4, 8, [2]int{6, 4}, 11, true}, {4, 8, [2]int{7, 4}, 14, true}, {4, 3, [2]int{7, 0}, 7, true}, {4, 3, [2]int{0, 4}, 7, true}, {4, 9, [2]int{0, 4}, 11, true}, {4, 1, [2]int{0, 4}, 7, true}, {4, 1, [2]int{0, 3}, 3, true}, {4, 2, [2]int{3, 0}, 3, true}, {4, 2, [2]int{10, 0}, 6, true},
		// Where the hint lies elsewhere.
		{4, 1, [2]int{9, 0}, 5, true}, {4, 1, [2]int{1, 3}, 3, true}, {4, 2, [2]int{9, 0}, 6, true},
		// All nodes.
		{4, 15, nothing, 15, true}, {4, 15, [2]int{15, 5}, 15, true}, {4, 15, [2]int{16, 5}, 0, false}, {4, 15, [2]int{15, 6}, 0, false}, {8, 255, nothing, 255, true}, {8, 255, [2]int{15, 5}, 255, true}, {8, 255, [2]int{0, 6}, 0, false}, {1, 1, [2]int{4, 0}, 1, true}, {1, 1, [2]int{4, 1}, 0, false},
		// Nodes that aren't among the first so many, alone and with others.
		{4, 16, nothing, 0, false}, {4, 17, nothing, 0, false}, {4, 31, nothing, 0, false}, {4, 128, nothing, 0, false}, {4, 129, [2]int{1, 0}, 0, false}, {7, 128, nothing, 0, false}, {7, 255, nothing, 0, false}, {0, 1, nothing, 0, false}, {0, 128, nothing, 0, false}, {1, 2, nothing, 0, false}, {1, 3, [2]int{1, 0}, 0, false}, {2, 4, [2]int{9, 0}, 0, false},
		// The last one that is.
		{8, 128, nothing, 128, true}, {8, 128, [2]int{4, 0}, 129, true}, {7, 64, nothing, 64, true}, {5, 16, nothing, 16, true}, {5, 16, [2]int{1, 1}, 18, true},
		// No nodes.
		{0, 0, nothing, 0, true}, {0, 0, [2]int{1, 0}, 0, false},
		// None is enough.
		{4, 1, [2]int{16, 0}, 0, false}, {3, 4, [2]int{0, 5}, 0, false}, {2, 2, [2]int{7, 0}, 0, false},
	} {
		if m, ok := hint.With(free, x.nodes, x.held, x.need); m != x.want || ok != x.ok {
			t.Errorf("%d: With(%d, %d, %v): %d, %v; want %d", i, x.nodes, x.held, x.need, m, ok, x.want)
		}
	}
}

// Each of few blocks on three nodes, of both kinds: all that can be asked there.
func TestP9_1Each(t *testing.T) {
	each := func(f func(s api.Spread)) {
		for n := range 27 {
			f(api.Spread{n % 3, n / 3 % 3, n / 9})
		}
	}
	each(func(memory api.Spread) {
		each(func(huge api.Spread) {
			free := [2]api.Spread{memory, huge}
			for a := range 8 {
				for b := range 8 {
					checkHints(t, free, 3, [2]int{a, b})
				}
			}
		})
		for a := range 8 {
			for nodes := range 5 {
				check(t, [2]api.Spread{memory, {0, 1, 0, 1}}, nodes, [2]int{a, a % 3})
			}
		}
	})
}

// someFree is much the same each time: of a seed.
func someFree(r *rand.Rand) api.Spread {
	tops := []int{1, 2, 4, 17, mostBlocks + 1}
	top := tops[r.IntN(len(tops))]
	var s api.Spread
	for node := range s {
		s[node] = r.IntN(top)
	}
	return s
}

// someNeed: up to somewhat more than there is on some of the nodes, and often just that.
func someNeed(r *rand.Rand, free api.Spread) int {
	n := 0
	for _, node := range nodesOf(r.IntN(256)) {
		n += free[node]
	}
	return min(max(n+r.IntN(3)-1, 0), mostBlocks)
}

func TestP9_1Many(t *testing.T) {
	r := rand.New(rand.NewPCG(9, 1))
	for range 300 {
		free := [2]api.Spread{someFree(r), someFree(r)}
		need := [2]int{someNeed(r, free[0]), someNeed(r, free[1])}
		check(t, free, r.IntN(all+1), need)
	}
}

func TestP9_2Over(t *testing.T) {
	free := api.Spread{4, 2, 9, 0, 0, 1, 0, 3}
	for i, x := range []struct {
		m, need int
		want    api.Spread
		ok      bool
	}{
		{7, 12, api.Spread{4, 2, 6}, true}, {3, 7, none, false}, {3, 6, api.Spread{4, 2}, true}, {3, 5, api.Spread{4, 1}, true}, {3, 4, api.Spread{4}, true}, {3, 3, api.Spread{3}, true}, {3, 1, api.Spread{1}, true},
		// Not from nodes that aren't in it.
		{4, 9, api.Spread{0, 0, 9}, true}, {4, 10, none, false}, {5, 5, api.Spread{4, 0, 1}, true}, {6, 3, api.Spread{0, 2, 1}, true}, {6, 12, none, false}, {128, 3, api.Spread{7: 3}, true}, {128, 4, none, false}, {129, 5, api.Spread{0: 4, 7: 1}, true}, {160, 2, api.Spread{5: 1, 7: 1}, true},
		// A node that has none: ahead, between, behind, alone.
		{24, 0, none, true}, {24, 1, none, false}, {8, 1, none, false}, {8, 0, none, true}, {40, 1, api.Spread{5: 1}, true}, {40, 2, none, false}, {12, 9, api.Spread{2: 9}, true}, {12, 10, none, false}, {9, 4, api.Spread{4}, true}, {9, 5, none, false}, {44, 10, api.Spread{2: 9, 5: 1}, true}, {201, 6, api.Spread{0: 4, 7: 2}, true},
		// The empty mask.
		{0, 0, none, true}, {0, 1, none, false}, {0, mostBlocks, none, false},
		// Nothing.
		{1, 0, none, true}, {255, 0, none, true},
		// All that is free, one less, one more.
		{255, 19, free, true}, {255, 18, api.Spread{4, 2, 9, 0, 0, 1, 0, 2}, true}, {255, 20, none, false}, {7, 15, api.Spread{4, 2, 9}, true}, {7, 16, none, false}, {255, mostBlocks, none, false},
	} {
		if s, ok := hint.Over(free, x.m, x.need); s != x.want || ok != x.ok {
			t.Errorf("%d: Over(%d, %d): %v, %v; want %v", i, x.m, x.need, s, ok, x.want)
		}
	}
}

func TestP9_2OverMost(t *testing.T) {
	for node := range all {
		var one api.Spread
		one[node] = mostBlocks
		for i, x := range []struct {
			free    api.Spread
			m, need int
			want    api.Spread
			ok      bool
		}{
			{one, 1 << node, mostBlocks, one, true}, {one, 255, mostBlocks, one, true}, {brim, 1 << node, mostBlocks, one, true}, {one, 255 - 1<<node, 1, none, false}, {one, 0, 1, none, false},
			{brim, 255, mostBlocks, api.Spread{mostBlocks}, true}, {brim, 255, 0, none, true}, {none, 255, 0, none, true}, {none, 255, 1, none, false}, {none, 255, mostBlocks, none, false},
		} {
			if s, ok := hint.Over(x.free, x.m, x.need); s != x.want || ok != x.ok {
				t.Errorf("%d: Over(%v, %d, %d): %v, %v", i, x.free, x.m, x.need, s, ok)
			}
		}
	}
	if s, ok := hint.Over(api.Spread{mostBlocks - 1, mostBlocks, 5}, 7, mostBlocks); !ok || s != (api.Spread{mostBlocks - 1, 1}) {
		t.Errorf("%v, %v", s, ok)
	}
}

func TestP9_2OverWrong(t *testing.T) {
	wrong := func(free api.Spread, m, need int) {
		t.Helper()
		if s, ok := hint.Over(free, m, need); ok || s != none {
			t.Errorf("Over(%v, %d, %d): %v, %v", free, m, need, s, ok)
		}
	}
	for _, n := range wrongNumbers() {
		for _, m := range []int{0, 1, 128, 255} {
			for _, free := range []api.Spread{none, {4, 2, 9}, brim} {
				wrong(free, m, n)
			}
		}
		for node := range all {
			for _, free := range []api.Spread{none, {4, 2, 9}, brim} {
				free[node] = n
				for _, need := range []int{0, 1, 6, mostBlocks} {
					for _, m := range []int{0, 1 << node, 255 - 1<<node, 255} {
						wrong(free, m, need)
					}
				}
			}
		}
	}
	for _, m := range wrongMasks() {
		for _, free := range []api.Spread{none, {4, 2, 9}, brim} {
			for _, need := range []int{0, 1, mostBlocks} {
				wrong(free, m, need)
			}
		}
	}
}

func TestP9_2OverEach(t *testing.T) {
	r := rand.New(rand.NewPCG(9, 2))
	for range 60 {
		var free api.Spread
		for node := range free {
			free[node] = r.IntN(4)
		}
		for m := range 256 {
			for need := range 26 {
				want, is := over(free, m, need)
				if s, ok := hint.Over(free, m, need); s != want || ok != is {
					t.Fatalf("Over(%v, %d, %d): %v, %v; want %v", free, m, need, s, ok, want)
				}
			}
		}
	}
}

func TestP9_2Hints(t *testing.T) {
	free := [2]api.Spread{{4, 2, 9, 0}, {0, 3, 1, 1}}
	for i, x := range []struct {
		nodes int
		need  [2]int
		want  []int
	}{
		{4, [2]int{11, 1}, []int{5, 6, 7, 13, 14, 15}}, {3, [2]int{11, 1}, []int{5, 6, 7}}, {4, [2]int{4, 0}, []int{1, 4, 3, 5, 6, 9, 12, 7, 11, 13, 14, 15}}, {4, [2]int{0, 5}, []int{14, 15}}, {3, [2]int{6, 0}, []int{4, 3, 5, 6, 7}},
		// None is enough.
		{4, [2]int{16, 0}, nil}, {4, [2]int{0, 6}, nil}, {8, [2]int{15, 6}, nil}, {2, [2]int{7, 0}, nil}, {1, [2]int{0, 1}, nil}, {0, [2]int{1, 0}, nil}, {0, [2]int{0, 1}, nil}, {8, [2]int{mostBlocks, mostBlocks}, nil},
		// All are, the empty one too: nothing is needed.
		{0, nothing, []int{0}}, {1, nothing, []int{0, 1}}, {2, nothing, []int{0, 1, 2, 3}}, {3, nothing, []int{0, 1, 2, 4, 3, 5, 6, 7}}, {4, nothing, []int{0, 1, 2, 4, 8, 3, 5, 6, 9, 10, 12, 7, 11, 13, 14, 15}},
		// Just all of what there is.
		{4, [2]int{15, 5}, []int{15}}, {3, [2]int{15, 4}, []int{7}}, {1, [2]int{4, 0}, []int{1}},
	} {
		if l := slices.Collect(hint.Hints(free, x.nodes, x.need)); !slices.Equal(l, x.want) {
			t.Errorf("%d: Hints(%d, %v): %v, want %v", i, x.nodes, x.need, l, x.want)
		}
	}
	// All of eight, of which each has enough alone: all but the empty one.
	if l := slices.Collect(hint.Hints([2]api.Spread{brim, brim}, all, [2]int{mostBlocks, mostBlocks})); !slices.Equal(l, inOrder[1:]) {
		t.Errorf("%v", l)
	}
	if l := slices.Collect(hint.Hints([2]api.Spread{}, all, nothing)); !slices.Equal(l, inOrder) {
		t.Errorf("%v", l)
	}
}

// leavesOff goes through, and leaves off at each place: ahead of the first one, behind each one, behind the last one, whose answer is asked too. Then nothing more may come; and whoever goes through again has it from the beginning.
func leavesOff(t *testing.T, seq iter.Seq[int], want []int) {
	t.Helper()
	next, stop := iter.Pull(seq)
	stop()
	if m, ok := next(); ok || m != 0 {
		t.Fatalf("left off ahead of the first one: %d", m)
	}
	for most := 1; most <= len(want); most++ {
		var got []int
		seq(func(m int) bool {
			got = append(got, m)
			return len(got) < most
		})
		if !slices.Equal(got, want[:most]) {
			t.Fatalf("left off behind %d: %v, want %v", most, got, want[:most])
		}
		got = nil
		for m := range seq {
			got = append(got, m)
			if len(got) == most {
				break
			}
		}
		if !slices.Equal(got, want[:most]) {
			t.Fatalf("broken off behind %d: %v, want %v", most, got, want[:most])
		}
	}
	for range 2 {
		if got := slices.Collect(seq); !slices.Equal(got, want) {
			t.Fatalf("again: %v, want %v", got, want)
		}
	}
}

func TestP9_2HintsLeftOff(t *testing.T) {
	free := [2]api.Spread{{4, 2, 9, 0}, {0, 3, 1, 1}}
	for nodes := range all + 1 {
		for _, need := range [][2]int{nothing, {4, 0}, {0, 1}, {11, 1}, {15, 5}, {16, 0}} {
			leavesOff(t, hint.Hints(free, nodes, need), hints(free, nodes, 0, need))
		}
	}
	for _, nodes := range []int{-1, 9, least, most} {
		leavesOff(t, hint.Hints(free, nodes, nothing), nil)
	}
	leavesOff(t, hint.Hints(free, 4, [2]int{-1, 0}), nil)
	leavesOff(t, hint.Hints([2]api.Spread{{-1}}, 4, nothing), nil)
}

// Two that go through one don't disturb each other, and what was handed in may change behind the call.
func TestP9_2HintsAtOnce(t *testing.T) {
	free := [2]api.Spread{{4, 2, 9, 0}, {0, 3, 1, 1}}
	need := [2]int{4, 0}
	want := hints(free, 4, 0, need)
	seq := hint.Hints(free, 4, need)
	free[0], need[1] = brim, mostBlocks
	i := 0
	for a := range seq {
		j := 0
		for b := range seq {
			if a != want[i] || b != want[j] {
				t.Fatalf("%d and %d at %d and %d of %v", a, b, i, j, want)
			}
			j++
			if j > i+1 {
				break
			}
		}
		i++
	}
	if i != len(want) {
		t.Errorf("%d of %d", i, len(want))
	}
}

// someQuestions, and of each which masks are enough.
func someQuestions(n int, f func(free [2]api.Spread, nodes int, need [2]int)) {
	r := rand.New(rand.NewPCG(9, 3))
	for range n {
		free := [2]api.Spread{someFree(r), someFree(r)}
		f(free, r.IntN(all+1), [2]int{someNeed(r, free[0]), someNeed(r, free[1])})
	}
}

// Without any of its nodes a hint isn't enough; and with held nodes, without any of the others.
func TestP9_3NoNodeLess(t *testing.T) {
	some := 0
	someQuestions(2000, func(free [2]api.Spread, nodes int, need [2]int) {
		m, ok := hint.Hint(free, nodes, need)
		if ok && !hint.Enough(free, m, need) {
			t.Fatalf("Hint(%v, %d, %v): %d isn't enough", free, nodes, need, m)
		}
		if ok && len(nodesOf(m)) > 1 {
			some++
		}
		for _, node := range nodesOf(m) {
			if node >= nodes || hint.Enough(free, m-1<<node, need) {
				t.Fatalf("Hint(%v, %d, %v): %d, of which %d could go", free, nodes, need, m, node)
			}
		}
		held := need[0] % (1 << nodes)
		m, ok = hint.With(free, nodes, held, need)
		if ok && !within(nodesOf(held), nodesOf(m)) {
			t.Fatalf("With(%v, %d, %d, %v): %d", free, nodes, held, need, m)
		}
		for _, node := range nodesOf(m) {
			if !slices.Contains(nodesOf(held), node) && hint.Enough(free, m-1<<node, need) {
				t.Fatalf("With(%v, %d, %d, %v): %d, of which %d could go", free, nodes, held, need, m, node)
			}
		}
	})
	if some < 200 {
		t.Errorf("only %d hints of more than one node", some)
	}
}

// A hint is the first one of Hints; and each that Hints tells is enough, and no other one.
func TestP9_3First(t *testing.T) {
	someQuestions(500, func(free [2]api.Spread, nodes int, need [2]int) {
		var seen [256]bool
		first := -1
		for m := range hint.Hints(free, nodes, need) {
			if m < 0 || m >= 1<<nodes || seen[m] {
				t.Fatalf("Hints(%v, %d, %v): %d", free, nodes, need, m)
			}
			seen[m] = true
			if first < 0 {
				first = m
			}
		}
		for m := range 1 << nodes {
			if seen[m] != hint.Enough(free, m, need) {
				t.Fatalf("Hints(%v, %d, %v): %d: %v", free, nodes, need, m, seen[m])
			}
		}
		if m, ok := hint.Hint(free, nodes, need); ok != (first >= 0) || m != max(first, 0) {
			t.Fatalf("Hint(%v, %d, %v): %d, %v; the first one is %d", free, nodes, need, m, ok, first)
		}
	})
}

// What is spread is all that is needed, nowhere more than is free, in the mask, and on no node while one ahead of it has some left.
func TestP9_3Spread(t *testing.T) {
	spread := 0
	someQuestions(2000, func(free [2]api.Spread, _ int, need [2]int) {
		for kind, n := range need {
			for _, m := range []int{0, 1, 128, 129, 170, 85, 254, 255, n % 256, free[kind][0] % 256} {
				s, ok := hint.Over(free[kind], m, n)
				var one [2]api.Spread
				one[kind] = free[kind]
				var needed [2]int
				needed[kind] = n
				if ok != hint.Enough(one, m, needed) {
					t.Fatalf("Over(%v, %d, %d): %v", free[kind], m, n, ok)
				}
				if !ok {
					continue
				}
				spread++
				left := n
				for node, got := range s {
					if got < 0 || got > free[kind][node] || got > 0 && !slices.Contains(nodesOf(m), node) {
						t.Fatalf("Over(%v, %d, %d): %v", free[kind], m, n, s)
					}
					left -= got
					if slices.Contains(nodesOf(m), node) && left > 0 && got < free[kind][node] {
						t.Fatalf("Over(%v, %d, %d): %v: node %d has some left", free[kind], m, n, s, node)
					}
				}
				if left != 0 {
					t.Fatalf("Over(%v, %d, %d): %v", free[kind], m, n, s)
				}
			}
		}
	})
	if spread < 1000 {
		t.Errorf("only %d spread", spread)
	}
}
