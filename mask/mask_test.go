package mask_test

import (
	"cmp"
	"iter"
	"math"
	"slices"
	"strings"
	"testing"

	"berthing/mask"
)

const (
	all   = 8
	least = math.MinInt
	most  = math.MaxInt
)

// set of nodes: a mask in this file's own means.
type set [all]bool

// setOf a number, in the document's words, said again: by the remainder and halves, without a bit.
func setOf(m int) set {
	m %= 256
	if m < 0 {
		m += 256
	}
	var s set
	for node := range s {
		s[node] = m%2 == 1
		m /= 2
	}
	return s
}

// number of a set.
func (s set) number() int {
	n, worth := 0, 1
	for _, in := range s {
		if in {
			n += worth
		}
		worth *= 2
	}
	return n
}

// nodes of a set, rising.
func (s set) nodes() []int {
	var l []int
	for node, in := range s {
		if in {
			l = append(l, node)
		}
	}
	return l
}

func (s set) has(node int) bool {
	return 0 <= node && node < all && s[node]
}

// ahead, by the document's words.
func ahead(a, b set) bool {
	if len(a.nodes()) != len(b.nodes()) {
		return len(a.nodes()) < len(b.nodes())
	}
	return a.number() < b.number()
}

// others: numbers that are no masks, but whose lowest eight bits are those of m.
func others(m int) []int {
	l := []int{m + 256, m + 512, m + 1<<16, m + 1<<32, m + 1<<62, m + 0x7f00, most - 255 + m, m - 256, m - 512, m - 1<<16, m - 1<<32, m - 1<<62, least + m, least + 256 + m}
	for _, n := range l {
		if setOf(n) != setOf(m) || n >= 0 && n <= 255 {
			panic("no kin")
		}
	}
	return l
}

// eachNumber goes over all masks, and behind each one over others of the same bits.
func eachNumber(f func(n int, s set)) {
	for m := range 256 {
		f(m, setOf(m))
		for _, n := range others(m) {
			f(n, setOf(m))
		}
	}
}

// edges of nodes: all of them, and such that are none, also some that a shift or a narrower kind would take for one.
func edges() []int {
	return []int{0, 1, 2, 3, 4, 5, 6, 7, 8, 9, 15, 16, 31, 32, 63, 64, 65, 127, 128, 255, 256, 257, 263, 1 << 16, 1 << 32, 1<<32 + 7, most - 1, most, -1, -2, -7, -8, -9, -63, -64, -65, -255, -256, -249, -1 << 32, least, least + 1, least + 7}
}

func TestP7_1Of(t *testing.T) {
	for i, x := range []struct {
		l    []int
		want int
	}{
		{nil, 0}, {[]int{}, 0}, {[]int{0}, 1}, {[]int{1}, 2}, {[]int{7}, 128}, {[]int{0, 7}, 129}, {[]int{7, 0}, 129},
		// Twice, and often.
		{[]int{3, 3}, 8}, {[]int{0, 0}, 1}, {[]int{7, 7, 7}, 128}, {[]int{5, 2, 5, 2}, 36}, {slices.Repeat([]int{6, 1}, 1000), 66},
		{[]int{0, 1, 2, 3, 4, 5, 6, 7}, 255}, {[]int{7, 6, 5, 4, 3, 2, 1, 0}, 255}, {[]int{2, 3, 5, 7}, 172},
		// Such that don't count: ahead, between, behind, alone.
		{[]int{-1}, 0}, {[]int{8}, 0}, {[]int{-1, 8}, 0}, {[]int{8, 0, -1, 7, 9}, 129}, {[]int{0, 3, 3, 7, 8, -1}, 137}, {[]int{-1, 4}, 16}, {[]int{4, 8}, 16}, {[]int{64, 4, -64}, 16},
		{[]int{least, most}, 0}, {[]int{least, 1, most}, 2}, {[]int{256, 257, -256, 1 << 32}, 0},
	} {
		if m := mask.Of(x.l...); m != x.want {
			t.Errorf("%d: Of(%v): %d, want %d", i, x.l, m, x.want)
		}
	}
	if mask.Of() != 0 || mask.Of(2) != 4 || mask.Of(2, 1) != 6 {
		t.Errorf("Of: %d, %d, %d", mask.Of(), mask.Of(2), mask.Of(2, 1))
	}
}

func TestP7_1OfEach(t *testing.T) {
	for _, a := range edges() {
		for _, b := range edges() {
			for _, c := range []int{-1, 0, 4, 7, 8} {
				var want set
				for _, node := range []int{a, b, c} {
					if 0 <= node && node < all {
						want[node] = true
					}
				}
				if m := mask.Of(a, b, c); m != want.number() {
					t.Fatalf("Of(%d, %d, %d): %d", a, b, c, m)
				}
			}
		}
	}
	for m := range 256 {
		l := setOf(m).nodes()
		if got := mask.Of(l...); got != m {
			t.Errorf("Of(%v): %d", l, got)
		}
		slices.Reverse(l)
		if got := mask.Of(l...); got != m {
			t.Errorf("Of(%v): %d", l, got)
		}
	}
}

// What is handed in stays, its spare room too.
func TestP7_1OfStays(t *testing.T) {
	room := []int{7, -1, 3, 3, 8, 0, 99, 98}
	before := slices.Clone(room)
	if m := mask.Of(room[1:5]...); m != 8 || !slices.Equal(room, before) {
		t.Errorf("%d, %v", m, room)
	}
}

func TestP7_1Has(t *testing.T) {
	for i, x := range []struct {
		m, node int
		want    bool
	}{
		{0, 0, false}, {0, 7, false}, {1, 0, true}, {1, 1, false}, {1, 7, false}, {128, 7, true}, {128, 0, false}, {128, 6, false}, {255, 0, true}, {255, 7, true}, {137, 3, true}, {137, 1, false},
		// No node.
		{255, -1, false}, {255, 8, false}, {255, 9, false}, {255, 64, false}, {255, 256, false}, {255, least, false}, {255, most, false}, {-1, -1, false}, {-1, 8, false}, {-1, 63, false}, {-1, least, false},
		// Numbers above 255, of which the ninth bit and those above don't count, and below 0.
		{256, 0, false}, {256, 8, false}, {257, 0, true}, {384, 7, true}, {-1, 0, true}, {-1, 7, true}, {-2, 0, false}, {-2, 1, true}, {-128, 7, true}, {-128, 6, false}, {-129, 7, false}, {-129, 0, true}, {-256, 0, false}, {-255, 0, true},
		{least, 0, false}, {least, 7, false}, {least + 1, 0, true}, {most, 0, true}, {most, 7, true}, {most - 1, 0, false},
	} {
		if got := mask.Has(x.m, x.node); got != x.want {
			t.Errorf("%d: Has(%d, %d): %v", i, x.m, x.node, got)
		}
	}
}

func TestP7_1With(t *testing.T) {
	for i, x := range []struct{ m, node, want int }{
		{0, 0, 1}, {0, 7, 128}, {1, 0, 1}, {1, 7, 129}, {128, 0, 129}, {128, 7, 128}, {255, 0, 255}, {255, 7, 255}, {8, 0, 9}, {127, 7, 255},
		// No node: the mask itself.
		{0, -1, 0}, {0, 8, 0}, {8, 8, 8}, {8, -1, 8}, {255, 8, 255}, {255, -1, 255}, {8, least, 8}, {8, most, 8}, {8, 64, 8}, {8, 256, 8},
		// Of other numbers its lowest eight bits.
		{256, 1, 2}, {257, 1, 3}, {256, 8, 0}, {257, -1, 1}, {300, 9, 44}, {-1, 0, 255}, {-1, 8, 255}, {-1, -1, 255}, {-2, 0, 255}, {-256, 7, 128}, {-256, 8, 0}, {-128, 0, 129},
		{least, 0, 1}, {least, -1, 0}, {least, least, 0}, {most, 0, 255}, {most, most, 255}, {most - 1, 8, 254},
	} {
		if got := mask.With(x.m, x.node); got != x.want {
			t.Errorf("%d: With(%d, %d): %d, want %d", i, x.m, x.node, got, x.want)
		}
	}
}

func TestP7_1Without(t *testing.T) {
	for i, x := range []struct{ m, node, want int }{
		{0, 0, 0}, {0, 7, 0}, {1, 0, 0}, {1, 7, 1}, {128, 0, 128}, {128, 7, 0}, {255, 0, 254}, {255, 7, 127}, {9, 0, 8}, {9, 1, 9},
		{0, -1, 0}, {0, 8, 0}, {9, 8, 9}, {9, -1, 9}, {255, 8, 255}, {255, -1, 255}, {9, least, 9}, {9, most, 9}, {9, 64, 9}, {9, 256, 9},
		{256, 1, 0}, {257, 0, 0}, {259, 1, 1}, {256, 8, 0}, {257, -1, 1}, {300, 9, 44}, {-1, 0, 254}, {-1, 7, 127}, {-1, 8, 255}, {-1, -1, 255}, {-256, 7, 0}, {-256, 8, 0}, {-128, 7, 0},
		{least, 0, 0}, {least, least, 0}, {least + 1, 0, 0}, {least + 1, 1, 1}, {most, 0, 254}, {most, most, 255}, {most - 1, 8, 254},
	} {
		if got := mask.Without(x.m, x.node); got != x.want {
			t.Errorf("%d: Without(%d, %d): %d, want %d", i, x.m, x.node, got, x.want)
		}
	}
}

// Each number with each node, against sets.
func TestP7_1EachNode(t *testing.T) {
	eachNumber(func(n int, s set) {
		for _, node := range edges() {
			with, without := s, s
			if 0 <= node && node < all {
				with[node], without[node] = true, false
			}
			if got := mask.Has(n, node); got != s.has(node) {
				t.Fatalf("Has(%d, %d): %v", n, node, got)
			}
			if got := mask.With(n, node); got != with.number() {
				t.Fatalf("With(%d, %d): %d", n, node, got)
			}
			if got := mask.Without(n, node); got != without.number() {
				t.Fatalf("Without(%d, %d): %d", n, node, got)
			}
		}
	})
}

func TestP7_1CountAndLeast(t *testing.T) {
	for _, x := range []struct {
		m, count, least int
		ok              bool
	}{
		{0, 0, 0, false}, {1, 1, 0, true}, {2, 1, 1, true}, {3, 2, 0, true}, {40, 2, 3, true}, {128, 1, 7, true}, {129, 2, 0, true}, {127, 7, 0, true}, {254, 7, 1, true}, {255, 8, 0, true}, {192, 2, 6, true}, {137, 3, 0, true},
		{256, 0, 0, false}, {512, 0, 0, false}, {257, 1, 0, true}, {1 << 62, 0, 0, false}, {0x7f80, 1, 7, true}, {-1, 8, 0, true}, {-2, 7, 1, true}, {-128, 1, 7, true}, {-256, 0, 0, false}, {-255, 1, 0, true},
		{least, 0, 0, false}, {least + 1, 1, 0, true}, {least + 128, 1, 7, true}, {most, 8, 0, true}, {most - 1, 7, 1, true}, {most - 255, 0, 0, false},
	} {
		if n := mask.Count(x.m); n != x.count {
			t.Errorf("Count(%d): %d", x.m, n)
		}
		if n, ok := mask.Least(x.m); n != x.least || ok != x.ok {
			t.Errorf("Least(%d): %d, %v", x.m, n, ok)
		}
	}
}

func TestP7_1EachCountAndLeast(t *testing.T) {
	eachNumber(func(n int, s set) {
		l := s.nodes()
		if got := mask.Count(n); got != len(l) {
			t.Fatalf("Count(%d): %d", n, got)
		}
		node, ok := mask.Least(n)
		if ok != (len(l) > 0) || ok && node != l[0] || !ok && node != 0 {
			t.Fatalf("Least(%d): %d, %v", n, node, ok)
		}
	})
}

func TestP7_1Under(t *testing.T) {
	for i, x := range []struct {
		m, n int
		want bool
	}{
		// Itself, and 0 in any.
		{0, 0, true}, {1, 1, true}, {128, 128, true}, {255, 255, true}, {0, 1, true}, {0, 128, true}, {0, 255, true},
		{1, 3, true}, {2, 3, true}, {1, 255, true}, {128, 255, true}, {127, 255, true}, {36, 37, true},
		// Where one node is missing, the least, the highest, one between; and where all are.
		{3, 2, false}, {3, 1, false}, {255, 254, false}, {255, 127, false}, {255, 239, false}, {255, 0, false}, {1, 0, false}, {128, 0, false}, {1, 2, false}, {2, 1, false}, {1, 128, false}, {128, 127, false}, {3, 5, false}, {5, 3, false}, {36, 35, false},
		// Other numbers.
		{256, 0, true}, {257, 0, false}, {257, 1, true}, {1, 256, false}, {1, 257, true}, {-1, 255, true}, {255, -1, true}, {-1, 254, false}, {-256, 0, true}, {0, -256, true}, {1, -256, false}, {-1, -1, true}, {-1, -2, false}, {-2, -1, true},
		{least, 0, true}, {least, least, true}, {1, least, false}, {least + 1, 1, true}, {most, 255, true}, {255, most, true}, {most, 254, false}, {255, most - 1, false}, {most, -1, true}, {least, most, true},
	} {
		if got := mask.Under(x.m, x.n); got != x.want {
			t.Errorf("%d: Under(%d, %d): %v", i, x.m, x.n, got)
		}
	}
}

func TestP7_1Ahead(t *testing.T) {
	for i, x := range []struct {
		a, b int
		want bool
	}{
		// Itself.
		{0, 0, false}, {1, 1, false}, {3, 3, false}, {128, 128, false}, {255, 255, false},
		// Fewer nodes, though the greater number.
		{128, 3, true}, {3, 128, false}, {192, 7, true}, {7, 192, false}, {224, 15, true}, {15, 224, false}, {254, 255, true}, {128, 127, true}, {127, 128, false}, {252, 127, true}, {127, 252, false},
		// Fewer nodes, and the lesser number.
		{0, 1, true}, {1, 0, false}, {0, 255, true}, {255, 0, false}, {0, 128, true}, {128, 0, false}, {1, 3, true}, {127, 255, true},
		// As many.
		{1, 2, true}, {2, 1, false}, {1, 128, true}, {128, 1, false}, {3, 5, true}, {5, 3, false}, {5, 6, true}, {6, 9, true}, {9, 6, false}, {127, 191, true}, {191, 127, false}, {64, 128, true},
		// Other numbers: their lowest eight bits alone, both in how many and in which is the lesser.
		{256, 1, true}, {1, 256, false}, {257, 1, false}, {1, 257, false}, {257, 2, true}, {2, 257, false}, {258, 1, false}, {1, 258, true}, {511, 3, false}, {3, 511, true}, {0, 256, false}, {256, 0, false}, {256, 512, false},
		{-1, 255, false}, {255, -1, false}, {-128, 3, true}, {3, -128, false}, {-128, 1, false}, {1, -128, true}, {-255, 2, true}, {2, -255, false}, {-1, 3, false}, {3, -1, true}, {-256, 1, true}, {-256, 0, false}, {-1, -2, false}, {-2, -1, true},
		{least, 0, false}, {0, least, false}, {least, 1, true}, {1, least, false}, {least + 2, 1, false}, {1, least + 2, true}, {most, 255, false}, {255, most, false}, {most, 1, false}, {1, most, true}, {most, least, false}, {least, most, true},
	} {
		if got := mask.Ahead(x.a, x.b); got != x.want {
			t.Errorf("%d: Ahead(%d, %d): %v", i, x.a, x.b, got)
		}
	}
}

// Each mask with each, and with others of the same bits.
func TestP7_1EachWithEach(t *testing.T) {
	for a := range 256 {
		for b := range 256 {
			under := true
			for _, node := range setOf(a).nodes() {
				under = under && setOf(b).has(node)
			}
			before := ahead(setOf(a), setOf(b))
			m, n := others(a), others(b)
			for i := range 6 {
				x, y := a, b
				switch i {
				case 1:
					x, y = m[b%len(m)], b
				case 2:
					x, y = a, n[a%len(n)]
				case 3, 4, 5:
					x, y = m[(b+i)%len(m)], n[(a*i)%len(n)]
				}
				if got := mask.Under(x, y); got != under {
					t.Fatalf("Under(%d, %d): %v", x, y, got)
				}
				if got := mask.Ahead(x, y); got != before {
					t.Fatalf("Ahead(%d, %d): %v", x, y, got)
				}
			}
		}
	}
}

// Of two masks that aren't alike just one is ahead.
func TestP7_1AheadOrders(t *testing.T) {
	var l []int
	for m := range 256 {
		l = append(l, m)
	}
	slices.SortFunc(l, func(a, b int) int {
		switch {
		case mask.Ahead(a, b):
			return -1
		case mask.Ahead(b, a):
			return 1
		}
		return 0
	})
	for i, m := range l {
		for j, n := range l {
			if mask.Ahead(m, n) != (i < j) {
				t.Fatalf("%d and %d", m, n)
			}
		}
	}
}

func TestP7_1Nodes(t *testing.T) {
	for m, want := range map[int][]int{
		0: nil, 1: {0}, 2: {1}, 3: {0, 1}, 128: {7}, 129: {0, 7}, 137: {0, 3, 7}, 40: {3, 5}, 255: {0, 1, 2, 3, 4, 5, 6, 7},
		256: nil, 257: {0}, 384: {7}, -1: {0, 1, 2, 3, 4, 5, 6, 7}, -2: {1, 2, 3, 4, 5, 6, 7}, -128: {7}, -256: nil, least: nil, least + 1: {0}, most: {0, 1, 2, 3, 4, 5, 6, 7}, most - 1: {1, 2, 3, 4, 5, 6, 7},
	} {
		if l := slices.Collect(mask.Nodes(m)); !slices.Equal(l, want) {
			t.Errorf("Nodes(%d): %v", m, l)
		}
	}
}

func TestP7_1EachNodes(t *testing.T) {
	eachNumber(func(n int, s set) {
		if l := slices.Collect(mask.Nodes(n)); !slices.Equal(l, s.nodes()) {
			t.Fatalf("Nodes(%d): %v", n, l)
		}
	})
}

// leavesOff goes through, and leaves off at each place: ahead of the first one, behind each one, behind the last one, whose answer is asked too. Then nothing more may come; and whoever goes through again has it from the beginning.
func leavesOff(t *testing.T, name string, seq iter.Seq[int], want []int) {
	t.Helper()
	next, stop := iter.Pull(seq)
	stop()
	if n, ok := next(); ok || n != 0 {
		t.Fatalf("%s: left off ahead of the first one: %d", name, n)
	}
	for most := 1; most <= len(want); most++ {
		var got []int
		seq(func(n int) bool {
			got = append(got, n)
			return len(got) < most
		})
		if !slices.Equal(got, want[:most]) {
			t.Fatalf("%s: left off behind %d: %v", name, most, got)
		}
		got = nil
		for n := range seq {
			got = append(got, n)
			if len(got) == most {
				break
			}
		}
		if !slices.Equal(got, want[:most]) {
			t.Fatalf("%s: broken off behind %d: %v", name, most, got)
		}
	}
	for range 2 {
		if got := slices.Collect(seq); !slices.Equal(got, want) {
			t.Fatalf("%s: again: %v", name, got)
		}
	}
}

// atOnce: two that go through one iterator don't disturb each other.
func atOnce(t *testing.T, name string, seq iter.Seq[int], want []int) {
	t.Helper()
	i := 0
	for a := range seq {
		j := 0
		for b := range seq {
			if i >= len(want) || j >= len(want) || a != want[i] || b != want[j] {
				t.Fatalf("%s: %d and %d", name, a, b)
			}
			j++
			if j > i+2 {
				break
			}
		}
		i++
	}
	if i != len(want) {
		t.Fatalf("%s: %d of %d", name, i, len(want))
	}
}

func TestP7_1NodesLeftOff(t *testing.T) {
	for m := range 256 {
		for _, n := range []int{m, others(m)[m%7], others(m)[7+m%7]} {
			leavesOff(t, "Nodes", mask.Nodes(n), setOf(m).nodes())
			atOnce(t, "Nodes", mask.Nodes(n), setOf(m).nodes())
		}
	}
}

func TestP7_1Text(t *testing.T) {
	for m, want := range map[int]string{
		0: "-", 1: "0", 2: "1", 4: "2", 8: "3", 16: "4", 32: "5", 64: "6", 128: "7", 3: "0,1", 129: "0,7", 137: "0,3,7", 254: "1,2,3,4,5,6,7", 255: "0,1,2,3,4,5,6,7",
		256: "-", 257: "0", 511: "0,1,2,3,4,5,6,7", -1: "0,1,2,3,4,5,6,7", -2: "1,2,3,4,5,6,7", -128: "7", -256: "-", least: "-", least + 1: "0", most: "0,1,2,3,4,5,6,7", most - 255: "-",
	} {
		if s := mask.Text(m); s != want {
			t.Errorf("Text(%d): %q, want %q", m, s, want)
		}
	}
}

func TestP7_1EachText(t *testing.T) {
	eachNumber(func(n int, s set) {
		want := ""
		for _, node := range s.nodes() {
			want += "," + "01234567"[node:node+1]
		}
		want = strings.TrimPrefix(want, ",")
		if want == "" {
			want = "-"
		}
		if got := mask.Text(n); got != want {
			t.Fatalf("Text(%d): %q, want %q", n, got, want)
		}
	})
}

// masks of the first so many nodes, by the document's words: all numbers but 0 of which each node is one of these, sorted.
func masks(nodes int) []int {
	var l []int
	for m := 1; m < 256; m++ {
		if s := setOf(m).nodes(); s[len(s)-1] < nodes {
			l = append(l, m)
		}
	}
	slices.SortFunc(l, func(a, b int) int {
		return cmp.Or(cmp.Compare(len(setOf(a).nodes()), len(setOf(b).nodes())), cmp.Compare(a, b))
	})
	return l
}

func TestP7_2Masks(t *testing.T) {
	for nodes, want := range map[int][]int{
		0: nil, 1: {1}, 2: {1, 2, 3}, 3: {1, 2, 4, 3, 5, 6, 7}, 4: {1, 2, 4, 8, 3, 5, 6, 9, 10, 12, 7, 11, 13, 14, 15},
		-1: nil, -2: nil, -7: nil, -8: nil, -256: nil, -255: nil, least: nil, least + 1: nil,
	} {
		if l := slices.Collect(mask.Masks(nodes)); !slices.Equal(l, want) {
			t.Errorf("Masks(%d): %v", nodes, l)
		}
	}
	for _, nodes := range []int{8, 9, 10, 16, 63, 64, 65, 255, 256, 257, 1 << 32, most - 1, most} {
		l := slices.Collect(mask.Masks(nodes))
		if len(l) != 255 || l[0] != 1 || l[7] != 128 || l[8] != 3 || l[35] != 192 || l[36] != 7 || l[246] != 127 || l[253] != 254 || l[254] != 255 {
			t.Errorf("Masks(%d): %v", nodes, l)
		}
	}
}

func TestP7_2EachMasks(t *testing.T) {
	for nodes := -3; nodes <= 300; nodes++ {
		if l := slices.Collect(mask.Masks(nodes)); !slices.Equal(l, masks(nodes)) {
			t.Fatalf("Masks(%d): %v", nodes, l)
		}
	}
}

// Each is ahead of all behind it, as Ahead tells.
func TestP7_2MasksAhead(t *testing.T) {
	for nodes := range all + 1 {
		l := slices.Collect(mask.Masks(nodes))
		for i, m := range l {
			for j, n := range l {
				if mask.Ahead(m, n) != (i < j) {
					t.Fatalf("Masks(%d): %d and %d", nodes, m, n)
				}
			}
		}
	}
}

func TestP7_2MasksLeftOff(t *testing.T) {
	for _, nodes := range []int{least, -1, 0, 1, 2, 3, 4, 5, 6, 7, 8, 9, most} {
		leavesOff(t, "Masks", mask.Masks(nodes), masks(nodes))
		atOnce(t, "Masks", mask.Masks(nodes), masks(nodes))
	}
}

func TestP7_3TakenOut(t *testing.T) {
	eachNumber(func(n int, s set) {
		for _, node := range edges() {
			m := mask.Without(n, node)
			if mask.Has(m, node) || slices.Contains(slices.Collect(mask.Nodes(m)), node) || !mask.Under(m, n) {
				t.Fatalf("Without(%d, %d): %d", n, node, m)
			}
			if again := mask.Without(mask.With(n, node), node); again != m {
				t.Fatalf("Without(With(%d, %d)): %d, want %d", n, node, again, m)
			}
			for other := range all {
				if other != node && mask.Has(m, other) != mask.Has(n, other) {
					t.Fatalf("Without(%d, %d): %d, of node %d", n, node, m, other)
				}
			}
		}
		m := n
		for node := range all {
			m = mask.Without(m, node)
		}
		if m != 0 {
			t.Fatalf("%d: %d without any", n, m)
		}
	})
}

func TestP7_3MasksOnce(t *testing.T) {
	for nodes := -1; nodes <= 10; nodes++ {
		first := min(max(nodes, 0), all)
		var seen [256]int
		for m := range mask.Masks(nodes) {
			if m < 0 || m > 255 {
				t.Fatalf("Masks(%d): %d", nodes, m)
			}
			seen[m]++
		}
		for m, n := range seen {
			// Those of these nodes alone are the numbers below 2 to the power of how many there are.
			want := 0
			if m > 0 && m < 1<<first {
				want = 1
			}
			if n != want {
				t.Errorf("Masks(%d): %d times %d", nodes, n, m)
			}
		}
	}
}
