package wide_test

import (
	"math"
	"math/big"
	"strings"
	"testing"

	"berthing/api"
	"berthing/wide"
)

const most = math.MaxUint64

var (
	none   = api.Wide{}
	all    = api.Wide{Hi: most, Lo: most}
	two64  = api.Wide{Hi: 1}
	two127 = api.Wide{Hi: 1 << 63}
)

// words: the edges of 64 bits, and some between them.
func words() []uint64 {
	l := []uint64{0, 1, 2, 3, 7, 9, 10, 11, 99, 100, 1000, 1<<31 - 1, 1 << 32, 1<<32 + 1, 1<<63 - 1, 1 << 63, 1<<63 + 1, most - 1, most, 10000000000000000000}
	x := uint64(88172645463325252)
	for i := range 12 {
		x ^= x << 13
		x ^= x >> 7
		x ^= x << 17
		l = append(l, x>>(5*i))
	}
	return l
}

// wides: each two words together, and the neighbours of each power of two and of ten.
func wides() []api.Wide {
	var l []api.Wide
	for _, hi := range words() {
		for _, lo := range words() {
			l = append(l, api.Wide{Hi: hi, Lo: lo})
		}
	}
	for n := range 128 {
		l = append(l, around(new(big.Int).Lsh(big.NewInt(1), uint(n)))...)
	}
	for n := range 39 {
		l = append(l, around(new(big.Int).Exp(big.NewInt(10), big.NewInt(int64(n)), nil))...)
	}
	return l
}

func around(b *big.Int) []api.Wide {
	var l []api.Wide
	for d := int64(-1); d <= 1; d++ {
		a, _ := fromBig(new(big.Int).Add(b, big.NewInt(d)))
		l = append(l, a)
	}
	return l
}

// few: enough of wides that each may be held against each.
func few() []api.Wide {
	var l []api.Wide
	for i, a := range wides() {
		if i%7 == 0 {
			l = append(l, a)
		}
	}
	return append(l, none, wide.Of(1), wide.Of(most), two64, two127, all, api.Wide{Hi: most, Lo: most - 1})
}

func toBig(a api.Wide) *big.Int {
	b := new(big.Int).SetUint64(a.Hi)
	b.Lsh(b, 64)
	return b.Or(b, new(big.Int).SetUint64(a.Lo))
}

// fromBig: none, false, if it doesn't fit.
func fromBig(b *big.Int) (api.Wide, bool) {
	if b.Sign() < 0 || b.BitLen() > 128 {
		return none, false
	}
	low := new(big.Int).And(b, new(big.Int).SetUint64(most))
	return api.Wide{Hi: new(big.Int).Rsh(b, 64).Uint64(), Lo: low.Uint64()}, true
}

// shifts: all that matter, and those that may not be.
func shifts() []int {
	l := []int{math.MinInt, math.MinInt + 1, -1 << 32, -128, -64, -2, -1}
	for n := range 132 {
		l = append(l, n)
	}
	return append(l, 191, 192, 255, 256, 1<<32, 1<<32+1, math.MaxInt-63, math.MaxInt-1, math.MaxInt)
}

func hold(t *testing.T, what string, a api.Wide, ok bool, want *big.Int) {
	t.Helper()
	w, fits := fromBig(want)
	if a != w || ok != fits {
		t.Fatalf("%s: %v %v, want %v %v", what, a, ok, w, fits)
	}
}

func TestP1_1Of(t *testing.T) {
	for _, u := range words() {
		if a := wide.Of(u); a != (api.Wide{Lo: u}) {
			t.Errorf("Of(%d): %v", u, a)
		}
	}
}

func TestP1_1Uint(t *testing.T) {
	for _, a := range wides() {
		want, fits := uint64(0), a.Hi == 0
		if fits {
			want = a.Lo
		}
		if u, ok := wide.Uint(a); u != want || ok != fits {
			t.Errorf("Uint(%v): %d %v", a, u, ok)
		}
	}
}

func TestP1_1Compare(t *testing.T) {
	for _, a := range few() {
		for _, b := range few() {
			if got, want := wide.Compare(a, b), toBig(a).Cmp(toBig(b)); got != want {
				t.Fatalf("Compare(%v, %v): %d", a, b, got)
			}
		}
	}
}

func TestP1_1Bits(t *testing.T) {
	for _, a := range wides() {
		if got, want := wide.Bits(a), toBig(a).BitLen(); got != want {
			t.Errorf("Bits(%v): %d, want %d", a, got, want)
		}
	}
	if wide.Bits(none) != 0 || wide.Bits(wide.Of(most)) != 64 || wide.Bits(two64) != 65 || wide.Bits(all) != 128 {
		t.Errorf("edges")
	}
}

func TestP1_2AddSub(t *testing.T) {
	for _, a := range few() {
		for _, b := range few() {
			sum, ok := wide.Add(a, b)
			hold(t, "Add", sum, ok, new(big.Int).Add(toBig(a), toBig(b)))
			less, ok := wide.Sub(a, b)
			hold(t, "Sub", less, ok, new(big.Int).Sub(toBig(a), toBig(b)))
		}
	}
}

func TestP1_2AddSubEdges(t *testing.T) {
	if a, ok := wide.Add(wide.Of(most), wide.Of(1)); a != two64 || !ok {
		t.Errorf("2^64 from below: %v %v", a, ok)
	}
	if a, ok := wide.Add(api.Wide{Hi: most, Lo: most - 1}, wide.Of(1)); a != all || !ok {
		t.Errorf("2^128 - 1 from below: %v %v", a, ok)
	}
	if a, ok := wide.Add(all, wide.Of(1)); a != none || ok {
		t.Errorf("2^128: %v %v", a, ok)
	}
	if a, ok := wide.Sub(two64, wide.Of(1)); a != wide.Of(most) || !ok {
		t.Errorf("2^64 - 1: %v %v", a, ok)
	}
	if a, ok := wide.Sub(none, wide.Of(1)); a != none || ok {
		t.Errorf("-1: %v %v", a, ok)
	}
	if a, ok := wide.Sub(all, all); a != none || !ok {
		t.Errorf("0: %v %v", a, ok)
	}
}

func TestP1_2Left(t *testing.T) {
	for _, a := range wides() {
		for _, n := range shifts() {
			got, ok := wide.Left(a, n)
			switch {
			case n < 0:
				if got != none || ok {
					t.Fatalf("Left(%v, %d): %v %v", a, n, got, ok)
				}
			case n > 127:
				if got != none || ok != (a == none) {
					t.Fatalf("Left(%v, %d): %v %v", a, n, got, ok)
				}
			default:
				hold(t, "Left", got, ok, new(big.Int).Lsh(toBig(a), uint(n)))
			}
		}
	}
}

func TestP1_2Right(t *testing.T) {
	for _, a := range wides() {
		for _, n := range shifts() {
			got := wide.Right(a, n)
			switch {
			case n < 0:
				if got != a {
					t.Fatalf("Right(%v, %d): %v", a, n, got)
				}
			case n > 127:
				if got != none {
					t.Fatalf("Right(%v, %d): %v", a, n, got)
				}
			default:
				hold(t, "Right", got, true, new(big.Int).Rsh(toBig(a), uint(n)))
			}
		}
	}
}

func TestP1_2Times(t *testing.T) {
	for _, a := range wides() {
		for _, u := range words() {
			got, ok := wide.Times(a, u)
			hold(t, "Times", got, ok, new(big.Int).Mul(toBig(a), new(big.Int).SetUint64(u)))
		}
	}
	// The high word's product fits, and what the low one carries into it is too much.
	if a, ok := wide.Times(api.Wide{Hi: 1 << 62, Lo: most}, 4); a != none || ok {
		t.Errorf("2^128 and more: %v %v", a, ok)
	}
	if a, ok := wide.Times(api.Wide{Hi: most / 3, Lo: most}, 3); a != none || ok {
		t.Errorf("a carry too much: %v %v", a, ok)
	}
	if a, ok := wide.Times(api.Wide{Hi: most / 3, Lo: most / 3}, 3); a != all || !ok {
		t.Errorf("2^128 - 1: %v %v", a, ok)
	}
}

func TestP1_2By(t *testing.T) {
	for _, a := range wides() {
		for _, u := range words() {
			got, rest, ok := wide.By(a, u)
			if u == 0 {
				if got != none || rest != 0 || ok {
					t.Fatalf("By(%v, 0): %v %d %v", a, got, rest, ok)
				}
				continue
			}
			quot, left := new(big.Int).QuoRem(toBig(a), new(big.Int).SetUint64(u), new(big.Int))
			hold(t, "By", got, ok, quot)
			if rest != left.Uint64() {
				t.Fatalf("By(%v, %d): rest %d", a, u, rest)
			}
		}
	}
}

func TestP1_2Examples(t *testing.T) {
	if a, ok := wide.Times(two64, 1<<63); a != two127 || !ok {
		t.Errorf("2^64 times 2^63: %v %v", a, ok)
	}
	if _, rest, ok := wide.By(two64, 10); rest != 6 || !ok {
		t.Errorf("the rest of 2^64 by 10: %d %v", rest, ok)
	}
}

func TestP1_3Text(t *testing.T) {
	for _, a := range wides() {
		s := wide.Text(a)
		if want := toBig(a).String(); s != want {
			t.Fatalf("Text(%v): %q, want %q", a, s, want)
		}
		if back, ok := wide.Parse(s); back != a || !ok {
			t.Fatalf("Parse(%q): %v %v", s, back, ok)
		}
	}
}

func TestP1_3ParseRight(t *testing.T) {
	for _, x := range []struct {
		s string
		a api.Wide
	}{
		{"0", none},
		{"9", wide.Of(9)},
		{"10", wide.Of(10)},
		{"18446744073709551615", wide.Of(most)},
		{"18446744073709551616", two64},
		{"18446744073709551617", api.Wide{Hi: 1, Lo: 1}},
		{"340282366920938463463374607431768211449", api.Wide{Hi: most, Lo: most - 6}},
		{"340282366920938463463374607431768211455", all},
	} {
		if a, ok := wide.Parse(x.s); a != x.a || !ok {
			t.Errorf("Parse(%q): %v %v", x.s, a, ok)
		}
	}
}

func TestP1_3ParseWrong(t *testing.T) {
	for _, s := range []string{
		"", "00", "01", "007", "0340282366920938463463374607431768211455",
		"-1", "-0", "+1", "+", "-", " ", " 1", "1 ", "1\n", "\x00", "1\x00",
		"a", "1a", "a1", "12x34", "0x10", "1_000", "1.0", "1e3", "/", ":", "1/", "1:",
		"\xb1", "1\xff", "\u0661", "\uff11",
		"340282366920938463463374607431768211456",
		"340282366920938463463374607431768211460",
		"340282366920938463463374607431768211500",
		"350000000000000000000000000000000000000",
		"999999999999999999999999999999999999999",
		"1000000000000000000000000000000000000000",
		"3402823669209384634633746074317682114550",
		strings.Repeat("9", 40), strings.Repeat("1", 100000), strings.Repeat("0", 100000),
		"1" + strings.Repeat("0", 100000), "340282366920938463463374607431768211455x",
	} {
		if a, ok := wide.Parse(s); a != none || ok {
			t.Errorf("Parse(%.50q): %v %v", s, a, ok)
		}
	}
	for c := range 256 {
		s := string([]byte{'1', byte(c)})
		if _, ok := wide.Parse(s); ok != ('0' <= c && c <= '9') {
			t.Errorf("Parse(%q): %v", s, ok)
		}
	}
}

func TestP1_4AddedTakenOff(t *testing.T) {
	for _, a := range few() {
		for _, b := range few() {
			sum, ok := wide.Add(a, b)
			if !ok {
				continue
			}
			if back, ok := wide.Sub(sum, b); back != a || !ok {
				t.Fatalf("%v and %v, less it: %v %v", a, b, back, ok)
			}
		}
	}
}

func TestP1_4TimesBy(t *testing.T) {
	for _, a := range wides() {
		for _, u := range words() {
			if u == 0 {
				continue
			}
			if product, ok := wide.Times(a, u); ok {
				if back, rest, ok := wide.By(product, u); back != a || rest != 0 || !ok {
					t.Fatalf("%v times %d, by it: %v %d %v", a, u, back, rest, ok)
				}
			}
			quot, rest, _ := wide.By(a, u)
			product, ok := wide.Times(quot, u)
			if !ok || rest >= u {
				t.Fatalf("%v by %d: %v %d", a, u, quot, rest)
			}
			if back, ok := wide.Add(product, wide.Of(rest)); back != a || !ok {
				t.Fatalf("%v by %d, times it, and the rest: %v %v", a, u, back, ok)
			}
		}
	}
}

func TestP1_4LeftRight(t *testing.T) {
	for _, a := range wides() {
		for n := range 128 {
			if up, ok := wide.Left(a, n); ok && wide.Right(up, n) != a {
				t.Fatalf("%v up and down %d: %v", a, n, wide.Right(up, n))
			}
			down := wide.Right(a, n)
			up, ok := wide.Left(down, n)
			if !ok {
				t.Fatalf("%v down and up %d: too great", a, n)
			}
			// What was rounded off is less than 2^n.
			if lost, ok := wide.Sub(a, up); !ok || wide.Bits(lost) > n {
				t.Fatalf("%v down and up %d: %v", a, n, up)
			}
		}
	}
}
