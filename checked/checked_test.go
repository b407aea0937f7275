package checked_test

import (
	"math"
	"math/big"
	"slices"
	"testing"

	"berthing/checked"
)

const (
	least = math.MinInt64
	most  = math.MaxInt64
)

// ints: the edges of 64 bits, the neighbours of each power of two on either side of 0, and some between them.
func ints() []int {
	l := []int{least, least + 1, least + 2, least / 2, least/2 - 1, -1000, -10, -3, -2, -1, 0, 1, 2, 3, 7, 10, 100, 1000, most / 3, most / 2, most/2 + 1, most - 2, most - 1, most, 3037000499, 3037000500}
	for n := range 63 {
		p := 1 << n
		l = append(l, p-1, p, p+1, 1-p, -p, -p-1)
	}
	x := uint64(88172645463325252)
	for i := range 40 {
		x ^= x << 13
		x ^= x >> 7
		x ^= x << 17
		l = append(l, int(x)>>i)
	}
	slices.Sort(l)
	return slices.Compact(l)
}

func bigOf(n int) *big.Int {
	return big.NewInt(int64(n))
}

// fit: the number, if it is an int; 0, false, if it isn't.
func fit(b *big.Int) (int, bool) {
	if !b.IsInt64() {
		return 0, false
	}
	return int(b.Int64()), true
}

// hold tells where an answer isn't that number, or isn't 0, false, of one that doesn't fit.
func hold(t *testing.T, got int, ok bool, want *big.Int, what string, args ...int) {
	t.Helper()
	w, fits := fit(want)
	if got != w || ok != fits {
		t.Fatalf("%s %v: %d %v, want %d %v", what, args, got, ok, w, fits)
	}
}

func TestP3_1AddSubTimes(t *testing.T) {
	l := ints()
	for _, a := range l {
		for _, b := range l {
			x, y := bigOf(a), bigOf(b)
			sum, ok := checked.Add(a, b)
			hold(t, sum, ok, new(big.Int).Add(x, y), "Add", a, b)
			less, ok := checked.Sub(a, b)
			hold(t, less, ok, new(big.Int).Sub(x, y), "Sub", a, b)
			product, ok := checked.Times(a, b)
			hold(t, product, ok, new(big.Int).Mul(x, y), "Times", a, b)
		}
	}
}

type pair struct{ a, b int }

type number struct {
	n  int
	ok bool
}

// The sums, differences and products of the edges, worked out by hand.
func TestP3_1Edges(t *testing.T) {
	edges := [5]int{least, -1, 0, 1, most}
	no := number{}
	yes := func(n int) number { return number{n, true} }
	sums := [5][5]number{
		{no, no, yes(least), yes(least + 1), yes(-1)},
		{no, yes(-2), yes(-1), yes(0), yes(most - 1)},
		{yes(least), yes(-1), yes(0), yes(1), yes(most)},
		{yes(least + 1), yes(0), yes(1), yes(2), no},
		{yes(-1), yes(most - 1), yes(most), no, no},
	}
	differences := [5][5]number{
		{yes(0), yes(least + 1), yes(least), no, no},
		{yes(most), yes(0), yes(-1), yes(-2), yes(least)},
		{no, yes(1), yes(0), yes(-1), yes(-most)},
		{no, yes(2), yes(1), yes(0), yes(1 - most)},
		{no, no, yes(most), yes(most - 1), yes(0)},
	}
	products := [5][5]number{
		{no, no, yes(0), yes(least), no},
		{no, yes(1), yes(0), yes(-1), yes(-most)},
		{yes(0), yes(0), yes(0), yes(0), yes(0)},
		{yes(least), yes(-1), yes(0), yes(1), yes(most)},
		{no, yes(-most), yes(0), yes(most), no},
	}
	for i, a := range edges {
		for j, b := range edges {
			if n, ok := checked.Add(a, b); (number{n, ok}) != sums[i][j] {
				t.Errorf("Add(%d, %d): %d %v", a, b, n, ok)
			}
			if n, ok := checked.Sub(a, b); (number{n, ok}) != differences[i][j] {
				t.Errorf("Sub(%d, %d): %d %v", a, b, n, ok)
			}
			if n, ok := checked.Times(a, b); (number{n, ok}) != products[i][j] {
				t.Errorf("Times(%d, %d): %d %v", a, b, n, ok)
			}
		}
	}
}

// Products just within and just beyond the bounds, the factors either way round.
func TestP3_1TimesBounds(t *testing.T) {
	for p, want := range map[pair]number{
		{1 << 31, 1 << 32}:        {},
		{1 << 31, -1 << 32}:       {least, true},
		{-1 << 31, -1 << 32}:      {},
		{1 << 31, 1<<32 - 1}:      {1<<63 - 1<<31, true},
		{3037000499, 3037000499}:  {9223372030926249001, true},
		{3037000500, 3037000500}:  {},
		{-3037000500, 3037000500}: {},
		{least / 2, 2}:            {least, true},
		{least / 2, -2}:           {},
		{least/2 - 1, 2}:          {},
		{most / 7, 7}:             {most, true},
		{most/7 + 1, 7}:           {},
		{most / 7, -7}:            {-most, true},
		{1 << 32, 1 << 32}:        {}, // wraps round to 0
		{1 << 62, 4}:              {}, // wraps round to 0
		{1<<32 + 1, 1<<32 - 1}:    {}, // wraps round to -1
		{1<<63 - 1, 1<<62 + 1}:    {},
		{least, least + 1}:        {},
	} {
		if n, ok := checked.Times(p.a, p.b); (number{n, ok}) != want {
			t.Errorf("Times(%d, %d): %d %v", p.a, p.b, n, ok)
		}
		if n, ok := checked.Times(p.b, p.a); (number{n, ok}) != want {
			t.Errorf("Times(%d, %d): %d %v", p.b, p.a, n, ok)
		}
	}
}

func TestP3_1Sum(t *testing.T) {
	for i, x := range []struct {
		l    []int
		want number
	}{
		{nil, number{0, true}},
		{[]int{}, number{0, true}},
		{[]int{0}, number{0, true}},
		{[]int{7}, number{7, true}},
		{[]int{least}, number{least, true}},
		{[]int{most}, number{most, true}},
		{[]int{1, 2, 3, 4}, number{10, true}},
		{[]int{5, -7, 1}, number{-1, true}},
		{[]int{most, least, most, 1}, number{most, true}},
		{[]int{most, 0, 0}, number{most, true}},
		{[]int{most, -1, 1}, number{most, true}},
		{[]int{most - 1, 1, 0}, number{most, true}},
		{[]int{least + 1, -1}, number{least, true}},
		// All of it would fit, and a sum on the way doesn't.
		{[]int{most, 1, -1}, number{}},
		{[]int{most, 1, -5}, number{}},
		{[]int{-1, least, 1}, number{}},
		{[]int{least, -1, most}, number{}},
		{[]int{0, most, most, least}, number{}},
		{[]int{1, 2, most, -3}, number{}},
		// And at the last one.
		{[]int{most, 1}, number{}},
		{[]int{1, 2, 3, most}, number{}},
		{[]int{least, 0, -1}, number{}},
	} {
		kept := slices.Clone(x.l)
		if n, ok := checked.Sum(x.l...); (number{n, ok}) != x.want {
			t.Errorf("%d: Sum(%v): %d %v", i, x.l, n, ok)
		}
		if !slices.Equal(kept, x.l) {
			t.Errorf("%d: handed in %v, and now %v", i, kept, x.l)
		}
	}
	if n, ok := checked.Sum(); n != 0 || !ok {
		t.Errorf("Sum(): %d %v", n, ok)
	}
}

// sumOf is what Sum should tell, by numbers of any length.
func sumOf(l []int) (int, bool) {
	sum := new(big.Int)
	for _, n := range l {
		if sum.Add(sum, bigOf(n)); !sum.IsInt64() {
			return 0, false
		}
	}
	return int(sum.Int64()), true
}

func TestP3_1SumOfThree(t *testing.T) {
	l := []int{least, least + 1, least / 2, -2, -1, 0, 1, 2, most / 2, most/2 + 1, most - 1, most}
	for _, a := range l {
		for _, b := range l {
			for _, c := range l {
				want, fits := sumOf([]int{a, b, c})
				if n, ok := checked.Sum(a, b, c); n != want || ok != fits {
					t.Fatalf("Sum(%d, %d, %d): %d %v", a, b, c, n, ok)
				}
			}
		}
	}
}

func TestP3_1Up(t *testing.T) {
	l := ints()
	for _, n := range l {
		for _, unit := range l {
			up, ok := checked.Up(n, unit)
			if unit < 1 {
				if up != 0 || ok {
					t.Fatalf("Up(%d, %d): %d %v", n, unit, up, ok)
				}
				continue
			}
			// Div rounds down where unit is above 0, so the negative of n's negative by unit is rounded up.
			times := new(big.Int).Div(new(big.Int).Neg(bigOf(n)), bigOf(unit))
			hold(t, up, ok, times.Mul(times.Neg(times), bigOf(unit)), "Up", n, unit)
		}
	}
}

func TestP3_1UpEdges(t *testing.T) {
	for p, want := range map[pair]number{
		{5, 4}:           {8, true},
		{0, 4}:           {0, true},
		{4, 4}:           {4, true},
		{-4, 4}:          {-4, true},
		{-5, 4}:          {-4, true},
		{-1, 4}:          {0, true},
		{1, most}:        {most, true},
		{0, most}:        {0, true},
		{-1, most}:       {0, true},
		{least, most}:    {-most, true},
		{least, 1}:       {least, true},
		{least, 2}:       {least, true},
		{least, 3}:       {least + 2, true},
		{most, 1}:        {most, true},
		{most, 7}:        {most, true},
		{most, most}:     {most, true},
		{most, 2}:        {},
		{most - 1, 2}:    {most - 1, true},
		{most, most - 1}: {},
		{most - 6, 7}:    {most, true},
		{5, 0}:           {},
		{0, 0}:           {},
		{5, -1}:          {},
		{8, -4}:          {},
		{0, least}:       {},
		{least, least}:   {},
		{least, -1}:      {},
	} {
		if n, ok := checked.Up(p.a, p.b); (number{n, ok}) != want {
			t.Errorf("Up(%d, %d): %d %v", p.a, p.b, n, ok)
		}
	}
}

func TestP3_2Narrower(t *testing.T) {
	l := ints()
	for n := -70000; n <= 70000; n++ {
		l = append(l, n)
	}
	for _, n := range l {
		if b, ok := checked.Byte(n); ok != (n >= 0 && n <= 255) || int(b) != within(n, 0, 255) {
			t.Fatalf("Byte(%d): %d %v", n, b, ok)
		}
		if s, ok := checked.Short(n); ok != (n >= -32768 && n <= 32767) || int(s) != within(n, -32768, 32767) {
			t.Fatalf("Short(%d): %d %v", n, s, ok)
		}
		if w, ok := checked.Narrow(n); ok != (n >= -2147483648 && n <= 2147483647) || int(w) != within(n, -2147483648, 2147483647) {
			t.Fatalf("Narrow(%d): %d %v", n, w, ok)
		}
	}
}

// within: the number, or 0 if it is outside.
func within(n, low, high int) int {
	if n < low || n > high {
		return 0
	}
	return n
}

func TestP3_2NarrowerEdges(t *testing.T) {
	for n, want := range map[int]number{least: {}, -256: {}, -1: {}, 0: {0, true}, 1: {1, true}, 254: {254, true}, 255: {255, true}, 256: {}, 511: {}, 1<<32 + 5: {}, most: {}} {
		if b, ok := checked.Byte(n); (number{int(b), ok}) != want {
			t.Errorf("Byte(%d): %d %v", n, b, ok)
		}
	}
	for n, want := range map[int]number{least: {}, -32769: {}, -32768: {-32768, true}, -32767: {-32767, true}, -1: {-1, true}, 0: {0, true}, 32766: {32766, true}, 32767: {32767, true}, 32768: {}, 65535: {}, 65536: {}, most: {}} {
		if s, ok := checked.Short(n); (number{int(s), ok}) != want {
			t.Errorf("Short(%d): %d %v", n, s, ok)
		}
	}
	for n, want := range map[int]number{least: {}, -1<<31 - 1: {}, -1 << 31: {-1 << 31, true}, 1 - 1<<31: {1 - 1<<31, true}, -1: {-1, true}, 0: {0, true}, 1<<31 - 2: {1<<31 - 2, true}, 1<<31 - 1: {1<<31 - 1, true}, 1 << 31: {}, 1<<32 - 1: {}, 1 << 32: {}, most: {}} {
		if w, ok := checked.Narrow(n); (number{int(w), ok}) != want {
			t.Errorf("Narrow(%d): %d %v", n, w, ok)
		}
	}
}

func TestP3_2Zig(t *testing.T) {
	for _, n := range ints() {
		want := bigOf(n)
		want.Lsh(want, 1)
		if n < 0 {
			want.Sub(want.Neg(want), big.NewInt(1))
		}
		if u := checked.Zig(n); !want.IsUint64() || u != want.Uint64() {
			t.Errorf("Zig(%d): %d, want %v", n, u, want)
		}
	}
	for n, want := range map[int]uint64{0: 0, -1: 1, 1: 2, -2: 3, 2: 4, most: math.MaxUint64 - 1, least: math.MaxUint64, least + 1: math.MaxUint64 - 2} {
		if u := checked.Zig(n); u != want {
			t.Errorf("Zig(%d): %d", n, u)
		}
		if back := checked.Zag(want); back != n {
			t.Errorf("Zag(%d): %d", want, back)
		}
	}
}

func TestP3_2Held(t *testing.T) {
	for i, x := range []struct{ n, least, most, want int }{
		{2, 1, 3, 2},
		{1, 1, 3, 1},
		{3, 1, 3, 3},
		{0, 1, 3, 1},
		{4, 1, 3, 3},
		{least, 1, 3, 1},
		{most, 1, 3, 3},
		{-5, -7, -6, -6},
		{4, 5, 5, 5},
		{5, 5, 5, 5},
		{6, 5, 5, 5},
		{least, least, most, least},
		{most, least, most, most},
		{0, least, most, 0},
		{least, least, least, least},
		{most, most, most, most},
		{most, least, least, least},
		{least, most, most, most},
		// Least above most: below least it is least, and else most, for n is above that.
		{5, 7, 3, 7},
		{2, 7, 3, 7},
		{3, 7, 3, 7},
		{6, 7, 3, 7},
		{7, 7, 3, 3},
		{8, 7, 3, 3},
		{0, most, least, most},
		{least, most, least, most},
		{most, most, least, least},
	} {
		if got := checked.Held(x.n, x.least, x.most); got != x.want {
			t.Errorf("%d: Held(%d, %d, %d): %d", i, x.n, x.least, x.most, got)
		}
	}
}

func TestP3_3AddedTakenOff(t *testing.T) {
	l := ints()
	for _, a := range l {
		for _, b := range l {
			if sum, ok := checked.Add(a, b); ok {
				if back, ok := checked.Sub(sum, b); back != a || !ok {
					t.Fatalf("%d and %d, less it: %d %v", a, b, back, ok)
				}
			}
			if less, ok := checked.Sub(a, b); ok {
				if back, ok := checked.Add(less, b); back != a || !ok {
					t.Fatalf("%d less %d, and it: %d %v", a, b, back, ok)
				}
			}
		}
	}
}

func TestP3_3ZigZag(t *testing.T) {
	for _, n := range ints() {
		if back := checked.Zag(checked.Zig(n)); back != n {
			t.Errorf("%d zigged and zagged: %d", n, back)
		}
		u := uint64(n)
		if back := checked.Zig(checked.Zag(u)); back != u {
			t.Errorf("%d zagged and zigged: %d", u, back)
		}
	}
}

func TestP3_3UpIsMultiple(t *testing.T) {
	l := ints()
	for _, n := range l {
		for _, unit := range l {
			up, ok := checked.Up(n, unit)
			if !ok {
				continue
			}
			above := new(big.Int).Sub(bigOf(up), bigOf(n))
			if up%unit != 0 || above.Sign() < 0 || above.Cmp(bigOf(unit)) >= 0 {
				t.Fatalf("Up(%d, %d): %d", n, unit, up)
			}
		}
	}
}
