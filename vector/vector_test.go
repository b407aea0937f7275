package vector_test

import (
	"math"
	"math/big"
	"slices"
	"strings"
	"testing"

	"berthing/api"
	"berthing/vector"
)

const (
	mostCPU   = 1 << 40
	mostBytes = 1 << 50
	page      = 1 << 21
	least     = math.MinInt
	most      = math.MaxInt
)

var none = api.Vector{}

func vec(cpu, memory, huge int) api.Vector {
	return api.Vector{CPU: cpu, Memory: memory, Huge: huge}
}

// edge is a number of a resource, and whether it is right there.
type edge struct {
	n  int
	ok bool
}

// edges of each resource: 0, the most that is right, one beside each, and what doesn't fit far beyond.
func edges() [3][]edge {
	return [3][]edge{
		{{least, false}, {-mostCPU, false}, {-1, false}, {0, true}, {1, true}, {999, true}, {mostCPU - 1, true}, {mostCPU, true}, {mostCPU + 1, false}, {mostBytes, false}, {most, false}},
		{{least, false}, {-mostBytes, false}, {-1, false}, {0, true}, {1, true}, {mostCPU + 1, true}, {mostBytes - 1, true}, {mostBytes, true}, {mostBytes + 1, false}, {2 * mostBytes, false}, {most, false}},
		{{least, false}, {-page, false}, {-1, false}, {0, true}, {1, false}, {page - 1, false}, {page, true}, {page + 1, false}, {page / 2, false}, {3 * page, true}, {mostBytes - page, true}, {mostBytes - 1, false}, {mostBytes, true}, {mostBytes + 1, false}, {mostBytes + page, false}, {most, false}},
	}
}

type marked struct {
	v  api.Vector
	ok bool
}

// vectors: each three edges together.
func vectors() []marked {
	var l []marked
	all := edges()
	for _, c := range all[0] {
		for _, m := range all[1] {
			for _, h := range all[2] {
				l = append(l, marked{vec(c.n, m.n, h.n), c.ok && m.ok && h.ok})
			}
		}
	}
	return l
}

// few: enough of vectors that each may be held against each.
func few() []marked {
	var l []marked
	for i, x := range vectors() {
		if x.ok && i%3 == 0 || i%19 == 0 {
			l = append(l, x)
		}
	}
	return l
}

func parts(v api.Vector) [3]int {
	return [3]int{v.CPU, v.Memory, v.Huge}
}

// rightBig: is that number one that this resource may have?
func rightBig(r int, n *big.Int) bool {
	bound := big.NewInt([3]int64{mostCPU, mostBytes, mostBytes}[r])
	return n.Sign() >= 0 && n.Cmp(bound) <= 0 && (r != 2 || new(big.Int).Rem(n, big.NewInt(page)).Sign() == 0)
}

// joined is what the document says of Add and Sub, by numbers that never wrap round.
func joined(a, b marked, join func(x, y *big.Int) *big.Int) (api.Vector, bool) {
	if !a.ok || !b.ok {
		return none, false
	}
	var p [3]int
	for r := range p {
		n := join(big.NewInt(int64(parts(a.v)[r])), big.NewInt(int64(parts(b.v)[r])))
		if !rightBig(r, n) {
			return none, false
		}
		p[r] = int(n.Int64())
	}
	return vec(p[0], p[1], p[2]), true
}

func plus(x, y *big.Int) *big.Int  { return new(big.Int).Add(x, y) }
func minus(x, y *big.Int) *big.Int { return new(big.Int).Sub(x, y) }

func TestP4_1Right(t *testing.T) {
	for _, x := range vectors() {
		if ok := vector.Right(x.v); ok != x.ok {
			t.Errorf("Right(%v): %v", x.v, ok)
		}
	}
	for r, l := range edges() {
		for _, e := range l {
			if v := vector.With(none, r, e.n); vector.Right(v) != e.ok {
				t.Errorf("Right(%v): %v", v, !e.ok)
			}
		}
	}
}

// others are numbers that no resource has.
func others() []int {
	return []int{least, -1 << 32, -3, -2, -1, 3, 4, 255, 256, 257, 1 << 32, 1<<32 + 1, most}
}

func TestP4_1At(t *testing.T) {
	for _, x := range vectors() {
		for r, n := range parts(x.v) {
			if got := vector.At(x.v, r); got != n {
				t.Errorf("At(%v, %d): %d", x.v, r, got)
			}
		}
	}
	if vector.At(vec(5, 7, 9), api.CPU) != 5 || vector.At(vec(5, 7, 9), api.Memory) != 7 || vector.At(vec(5, 7, 9), api.Huge) != 9 {
		t.Errorf("by names")
	}
	for _, r := range others() {
		if n := vector.At(vec(5, 7, 9), r); n != 0 {
			t.Errorf("At of resource %d: %d", r, n)
		}
	}
}

func TestP4_1With(t *testing.T) {
	v := vec(5, 7, 9)
	for _, n := range []int{least, -1, 0, 1, 11, page, mostBytes + 1, most} {
		for r, want := range [3]api.Vector{vec(n, 7, 9), vec(5, n, 9), vec(5, 7, n)} {
			if got := vector.With(v, r, n); got != want {
				t.Errorf("With(%v, %d, %d): %v", v, r, n, got)
			}
		}
		for _, r := range others() {
			if got := vector.With(v, r, n); got != v {
				t.Errorf("With(%v, %d, %d): %v", v, r, n, got)
			}
		}
	}
	if v != vec(5, 7, 9) {
		t.Errorf("changed: %v", v)
	}
}

func TestP4_1FitsMaxUnlike(t *testing.T) {
	for _, x := range few() {
		for _, y := range few() {
			fits, greater, unlike := true, [3]int{}, [3]bool{}
			for r, m := range parts(x.v) {
				n := parts(y.v)[r]
				fits = fits && m <= n
				greater[r] = n
				if m > n {
					greater[r] = m
				}
				unlike[r] = m != n
			}
			if vector.Fits(x.v, y.v) != fits {
				t.Fatalf("Fits(%v, %v): %v", x.v, y.v, !fits)
			}
			if got := vector.Max(x.v, y.v); parts(got) != greater {
				t.Fatalf("Max(%v, %v): %v", x.v, y.v, got)
			}
			if got := vector.Unlike(x.v, y.v); got != unlike {
				t.Fatalf("Unlike(%v, %v): %v", x.v, y.v, got)
			}
		}
	}
}

// One resource greater, or less, by one or by all there is, is enough, right vectors or not.
func TestP4_1FitsMaxUnlikeByHand(t *testing.T) {
	for _, x := range []struct {
		a, b    api.Vector
		fits    bool
		greater api.Vector
		unlike  [3]bool
	}{
		{none, none, true, none, [3]bool{}},
		{vec(1, 2, page), vec(1, 2, page), true, vec(1, 2, page), [3]bool{}},
		{vec(1, 2, page), vec(2, 2, page), true, vec(2, 2, page), [3]bool{true, false, false}},
		{vec(2, 2, page), vec(1, 2, page), false, vec(2, 2, page), [3]bool{true, false, false}},
		{vec(1, 2, page), vec(1, 3, page), true, vec(1, 3, page), [3]bool{false, true, false}},
		{vec(1, 3, page), vec(1, 2, page), false, vec(1, 3, page), [3]bool{false, true, false}},
		{vec(1, 2, 0), vec(1, 2, page), true, vec(1, 2, page), [3]bool{false, false, true}},
		{vec(1, 2, page), vec(1, 2, 0), false, vec(1, 2, page), [3]bool{false, false, true}},
		{vec(5, 7, page), vec(6, 1, page), false, vec(6, 7, page), [3]bool{true, true, false}},
		{vec(-3, -2, -1), vec(-4, -2, 0), false, vec(-3, -2, 0), [3]bool{true, false, true}},
		{vec(least, least, least), vec(most, most, most), true, vec(most, most, most), [3]bool{true, true, true}},
		{vec(most, most, most), vec(least, least, least), false, vec(most, most, most), [3]bool{true, true, true}},
		{vec(most, least, 1), vec(most, least, 1), true, vec(most, least, 1), [3]bool{}},
	} {
		if fits, greater, unlike := vector.Fits(x.a, x.b), vector.Max(x.a, x.b), vector.Unlike(x.a, x.b); fits != x.fits || greater != x.greater || unlike != x.unlike {
			t.Errorf("%v, %v: %v %v %v", x.a, x.b, fits, greater, unlike)
		}
	}
}

func TestP4_2AddSub(t *testing.T) {
	for _, a := range few() {
		for _, b := range few() {
			want, fits := joined(a, b, plus)
			if v, ok := vector.Add(a.v, b.v); v != want || ok != fits {
				t.Fatalf("Add(%v, %v): %v %v, want %v %v", a.v, b.v, v, ok, want, fits)
			}
			want, fits = joined(a, b, minus)
			if v, ok := vector.Sub(a.v, b.v); v != want || ok != fits {
				t.Fatalf("Sub(%v, %v): %v %v, want %v %v", a.v, b.v, v, ok, want, fits)
			}
		}
	}
}

func TestP4_2AddEdges(t *testing.T) {
	for _, x := range []struct {
		a, b, sum api.Vector
		ok        bool
	}{
		{none, none, none, true},
		{vec(5, 7, page), vec(6, 1, page), vec(11, 8, 2*page), true},
		{vec(mostCPU, mostBytes, mostBytes), none, vec(mostCPU, mostBytes, mostBytes), true},
		{vec(mostCPU-1, mostBytes-1, mostBytes-page), vec(1, 1, page), vec(mostCPU, mostBytes, mostBytes), true},
		{vec(mostCPU, 1, page), vec(1, 1, page), none, false},
		{vec(1, mostBytes, page), vec(1, 1, page), none, false},
		{vec(1, 1, mostBytes), vec(1, 1, page), none, false},
		{vec(mostCPU, mostBytes, mostBytes), vec(mostCPU, mostBytes, mostBytes), none, false},
		{vec(-1, 1, page), vec(2, 1, page), none, false},
		{vec(1, -1, page), vec(1, 2, page), none, false},
		{vec(1, 1, -page), vec(1, 1, 2*page), none, false},
		{vec(1, 1, page/2), vec(1, 1, page/2), none, false},
		{vec(1, 1, page+1), vec(1, 1, page-1), none, false},
		{vec(mostCPU+1, 0, 0), vec(-1, 0, 0), none, false},
		{vec(most, 0, 0), vec(least, 0, 0), none, false},
		{vec(least, least, least), vec(least, least, least), none, false},
		{vec(1<<62, 1<<62, 1<<62), vec(3<<61, 3<<61, 3<<61), none, false},
	} {
		if v, ok := vector.Add(x.a, x.b); v != x.sum || ok != x.ok {
			t.Errorf("Add(%v, %v): %v %v", x.a, x.b, v, ok)
		}
		if v, ok := vector.Add(x.b, x.a); v != x.sum || ok != x.ok {
			t.Errorf("Add(%v, %v): %v %v", x.b, x.a, v, ok)
		}
	}
}

func TestP4_2SubEdges(t *testing.T) {
	for _, x := range []struct {
		a, b, less api.Vector
		ok         bool
	}{
		{none, none, none, true},
		{vec(6, 7, 2*page), vec(5, 1, page), vec(1, 6, page), true},
		{vec(mostCPU, mostBytes, mostBytes), vec(mostCPU, mostBytes, mostBytes), none, true},
		{vec(mostCPU, mostBytes, mostBytes), none, vec(mostCPU, mostBytes, mostBytes), true},
		{vec(5, 7, page), vec(6, 1, page), none, false},
		{vec(5, 7, page), vec(5, 8, page), none, false},
		{vec(5, 7, page), vec(5, 7, 2*page), none, false},
		{vec(1, 1, page), vec(-1, 1, page), none, false},
		{vec(-1, 1, page), vec(-1, 1, page), none, false},
		{vec(1, 1, page), vec(1, -1, page), none, false},
		{vec(1, 1, page), vec(1, 1, -page), none, false},
		{vec(1, 1, page+1), vec(1, 1, 1), none, false},
		{vec(mostCPU+1, 1, page), vec(1, 1, page), none, false},
		{vec(1, mostBytes+1, page), vec(1, 1, page), none, false},
		{vec(1, 1, mostBytes+page), vec(1, 1, page), none, false},
		{vec(least, 0, 0), vec(most, 0, 0), none, false},
	} {
		if v, ok := vector.Sub(x.a, x.b); v != x.less || ok != x.ok {
			t.Errorf("Sub(%v, %v): %v %v", x.a, x.b, v, ok)
		}
	}
}

func TestP4_2Sum(t *testing.T) {
	half := vec(mostCPU/2, mostBytes/2, mostBytes/2)
	for _, x := range []struct {
		l   []api.Vector
		sum api.Vector
		ok  bool
	}{
		{nil, none, true},
		{[]api.Vector{}, none, true},
		{[]api.Vector{none}, none, true},
		{[]api.Vector{vec(5, 7, page)}, vec(5, 7, page), true},
		{[]api.Vector{vec(5, 7, page), vec(6, 1, page), vec(1, 1, 0)}, vec(12, 9, 2*page), true},
		{[]api.Vector{none, half, none, half, none}, vec(mostCPU, mostBytes, mostBytes), true},
		{[]api.Vector{half, half, vec(1, 0, 0)}, none, false},
		{[]api.Vector{vec(1, 0, 0), half, half}, none, false},
		{[]api.Vector{half, half, vec(0, 1, 0)}, none, false},
		{[]api.Vector{half, half, vec(0, 0, page)}, none, false},
		{[]api.Vector{half, half, vec(1, 0, 0), none, none}, none, false},
		{[]api.Vector{half, half, vec(1, 0, 0), vec(-1, 0, 0)}, none, false},
		{[]api.Vector{vec(0, 0, page/2), vec(0, 0, page/2)}, none, false},
		{[]api.Vector{vec(most, 0, 0), vec(most, 0, 0), vec(2, 0, 0)}, none, false},
	} {
		before := slices.Clone(x.l)
		if v, ok := vector.Sum(x.l...); v != x.sum || ok != x.ok {
			t.Errorf("Sum(%v): %v %v", x.l, v, ok)
		}
		if !slices.Equal(before, x.l) {
			t.Errorf("changed: %v", x.l)
		}
	}
}

// One that isn't right, at whichever place, and however the others would make it up.
func TestP4_2SumOfWrong(t *testing.T) {
	for _, x := range vectors() {
		want := x.v
		if !x.ok {
			want = none
		}
		if v, ok := vector.Sum(x.v); v != want || ok != x.ok {
			t.Fatalf("Sum(%v): %v %v", x.v, v, ok)
		}
		if x.ok {
			continue
		}
		for at := range 4 {
			l := slices.Insert([]api.Vector{vec(1, 1, page), vec(2, 2, 0), vec(3, 3, page)}, at, x.v)
			if v, ok := vector.Sum(l...); v != none || ok {
				t.Fatalf("Sum(%v): %v %v", l, v, ok)
			}
		}
	}
}

func TestP4_3Text(t *testing.T) {
	for _, x := range []struct {
		v api.Vector
		s string
	}{
		{none, "-"},
		{vec(1, 0, 0), "cpu=1m"},
		{vec(500, 1<<30, 0), "cpu=500m,memory=1Gi"},
		{vec(1000, 0, 0), "cpu=1"},
		{vec(1024, 1024, 0), "cpu=1024m,memory=1Ki"},
		{vec(1500, 1500, 0), "cpu=1500m,memory=1500"},
		{vec(1024000, 1000, 0), "cpu=1024,memory=1k"},
		{vec(1000000, 0, 0), "cpu=1k"},
		{vec(1000000000, 0, 0), "cpu=1M"},
		{vec(0, 1, 0), "memory=1"},
		{vec(0, 1000000, 0), "memory=1M"},
		{vec(0, 1024000, 0), "memory=1000Ki"},
		{vec(0, 1610612736, 0), "memory=1536Mi"},
		{vec(0, 0, page), "hugepages=2Mi"},
		{vec(0, 0, 512*page), "hugepages=1Gi"},
		{vec(0, 0, 513*page), "hugepages=1026Mi"},
		{vec(7, 0, page), "cpu=7m,hugepages=2Mi"},
		{vec(0, 7, page), "memory=7,hugepages=2Mi"},
		{vec(2000, 3, 3*page), "cpu=2,memory=3,hugepages=6Mi"},
		{vec(mostCPU, mostBytes, mostBytes), "cpu=1099511627776m,memory=1Pi,hugepages=1Pi"},
		{vec(mostCPU-1, mostBytes-1, mostBytes-page), "cpu=1099511627775m,memory=1125899906842623,hugepages=1073741822Mi"},
	} {
		if s := vector.Text(x.v); s != x.s {
			t.Errorf("Text(%v): %q, want %q", x.v, s, x.s)
		}
	}
	for _, x := range vectors() {
		if s := vector.Text(x.v); (s != "") != x.ok {
			t.Errorf("Text(%v): %q", x.v, s)
		}
	}
}

func TestP4_3Parse(t *testing.T) {
	for _, x := range []struct {
		s string
		v api.Vector
	}{
		{"-", none},
		{"cpu=500m,memory=1Gi", vec(500, 1073741824, 0)},
		{"cpu=0", none}, {"memory=0", none}, {"hugepages=0", none}, {"cpu=0,memory=0,hugepages=0", none}, {"hugepages=0n,memory=.0Ei", none},
		{"cpu=1", vec(1000, 0, 0)}, {"cpu=1.5", vec(1500, 0, 0)}, {"cpu=1e3", vec(1000000, 0, 0)}, {"cpu=1Ki", vec(1024000, 0, 0)}, {"cpu=1k", vec(1000000, 0, 0)}, {"cpu=007m", vec(7, 0, 0)},
		{"memory=1", vec(0, 1, 0)}, {"memory=1.5Gi", vec(0, 1610612736, 0)}, {"memory=1M", vec(0, 1000000, 0)}, {"memory=5.", vec(0, 5, 0)}, {"memory=1E-0", vec(0, 1, 0)},
		{"hugepages=2Mi", vec(0, 0, page)}, {"hugepages=2097152", vec(0, 0, page)}, {"hugepages=2048Ki", vec(0, 0, page)}, {"hugepages=0.001953125Gi", vec(0, 0, page)}, {"hugepages=2097.152k", vec(0, 0, page)},
		// Rounded up, to a thousandth and to a unit.
		{"cpu=1n", vec(1, 0, 0)}, {"cpu=1u", vec(1, 0, 0)}, {"cpu=999u", vec(1, 0, 0)}, {"cpu=1000u", vec(1, 0, 0)}, {"cpu=1001u", vec(2, 0, 0)}, {"cpu=1.0001", vec(1001, 0, 0)}, {"cpu=0.1n", vec(1, 0, 0)},
		{"memory=1n", vec(0, 1, 0)}, {"memory=1m", vec(0, 1, 0)}, {"memory=999m", vec(0, 1, 0)}, {"memory=1.000000001", vec(0, 2, 0)}, {"memory=0.5Ki", vec(0, 512, 0)}, {"memory=0.0001Ki", vec(0, 1, 0)},
		{"hugepages=2097151.5", vec(0, 0, page)}, {"hugepages=2097151000000001n", vec(0, 0, page)},
		// The most that is right.
		{"cpu=1099511627776m", vec(mostCPU, 0, 0)}, {"cpu=1099511627.776", vec(mostCPU, 0, 0)}, {"cpu=1.099511627776G", vec(mostCPU, 0, 0)}, {"cpu=1099511627775.1m", vec(mostCPU, 0, 0)},
		{"memory=1Pi", vec(0, mostBytes, 0)}, {"memory=1125899906842624", vec(0, mostBytes, 0)}, {"memory=1125899906842623.5", vec(0, mostBytes, 0)}, {"memory=1125899906842623", vec(0, mostBytes-1, 0)},
		{"hugepages=1Pi", vec(0, 0, mostBytes)}, {"hugepages=1024Ti", vec(0, 0, mostBytes)}, {"hugepages=1073741822Mi", vec(0, 0, mostBytes-page)},
		{"hugepages=1Pi,memory=1Pi,cpu=1099511627776m", vec(mostCPU, mostBytes, mostBytes)},
	} {
		if v, e := vector.Parse(x.s); v != x.v || e != api.OK {
			t.Errorf("Parse(%q): %v %d", x.s, v, e)
		}
	}
}

func TestP4_3ParseErrors(t *testing.T) {
	for _, x := range []struct {
		e api.Errno
		l []string
	}{
		{api.ErrEnd, []string{"", "cpu=", "memory=", "hugepages=", "cpu=,", "cpu=,cpu=1", "cpu=,x", "cpu=1,memory=", "memory=1,cpu=,hugepages=1", "cpu=,memory=2Pi"}},
		{api.ErrForm, []string{
			// No =.
			"cpu", "memory", "hugepages", "x", "cpu1", "1", "cpu:1", "cpu 1", ",", ",,", ",cpu=1", "cpu=1,", "cpu=1,,memory=1", "cpu=1,memory", " ", "\n", "\x00", "\xff", "-,", ",-", "--", " -", "- ", "-,cpu=1", "cpu=1,-", "-,-", "−",
			// A name that is none.
			"=", "=1", "==", "=,cpu=1", "disk=1", "CPU=1", "Cpu=1", "cpus=1", "cp=1", "mem=1", "memory1=1", "huge=2Mi", "hugepage=2Mi", "hugepages =2Mi", " cpu=1", "cpu =1", "cpu=1, memory=1", "-=1", "-=", "disk=", "disk=x", "disk=2Ei", "0=1", "cpu\x00=1", "сpu=1",
			// A name that was there already, whatever is behind it.
			"cpu=1,cpu=1", "cpu=1,cpu=", "cpu=1,cpu=x", "cpu=1,cpu=2Ei", "cpu=0,cpu=0", "memory=1,memory=2Pi", "memory=0,cpu=1,memory=", "hugepages=0,hugepages=4Mi", "cpu=1,memory=1,hugepages=2Mi,cpu=1", "cpu=1,memory=1,hugepages=2Mi,hugepages=", "cpu=1,cpu=" + strings.Repeat("1", 29),
			// What is behind the = is no amount.
			"cpu=x", "cpu=-", "cpu=-1", "cpu=+1", "cpu= 1", "cpu=1 ", "cpu==", "cpu==1", "cpu=1=", "cpu=1=1", "cpu=1=,memory=1", "cpu=.", "cpu=1K", "cpu=m", "memory=1ki", "memory=1Kib", "memory=1;cpu=1", "cpu=1\n", "cpu=memory=1", "cpu=cpu=1", "hugepages=1.2.3", "hugepages=0x200000", "cpu=1e", "cpu=" + strings.Repeat("1", 29) + "x",
			// Huge pages that are no multiple.
			"hugepages=1", "hugepages=1Mi", "hugepages=3Mi", "hugepages=2M", "hugepages=2097151", "hugepages=2097153", "hugepages=2097152.000000001", "hugepages=2097152000000001n", "hugepages=1125899906842623", "hugepages=1n", "cpu=1,hugepages=1Mi,memory=1",
			// The first part that is wrong is told, not a later one.
			"x,cpu=", "x=1,cpu=", "cpu=x,memory=2Pi", "cpu=x,memory=", "hugepages=1Mi,memory=2Pi", "hugepages=1Mi,cpu=", "hugepages=1,memory=" + strings.Repeat("0", 29),
		}},
		{api.ErrLong, []string{"cpu=" + strings.Repeat("0", 29), "cpu=" + strings.Repeat("9", 29), "memory=0." + strings.Repeat("0", 28), "hugepages=" + strings.Repeat("1", 100000), "memory=" + strings.Repeat("0", 29) + ",cpu=x", "cpu=1,memory=" + strings.Repeat("0", 29) + "Ki,cpu="}},
		{api.ErrOver, []string{
			// No amounts, or no thousandths.
			"cpu=2Ei", "memory=2Ei", "hugepages=2Ei", "cpu=1e99", "memory=" + strings.Repeat("9", 28), "cpu=1Ei", "cpu=1152921504606846977m",
			// Amounts, but not right.
			"cpu=1099511627777m", "cpu=1099511627.777", "cpu=1099511627776.000001m", "cpu=1099511627776001u", "cpu=2G", "cpu=1152921504606846976m", "cpu=1Ti", "cpu=1Pi",
			"memory=1125899906842625", "memory=1125899906842624.1", "memory=1125899906842624000000001n", "memory=2Pi", "memory=1Ei", "memory=1152921504606846976",
			"hugepages=1125899908939776", "hugepages=1125899906842625", "hugepages=1125899906842624.5", "hugepages=2Pi", "hugepages=1Ei", "hugepages=1073741826Mi",
			"memory=2Pi,cpu=x", "memory=2Pi,memory=1", "memory=2Pi,", "memory=2Pi,hugepages=1Mi", "cpu=2G,cpu=", "hugepages=2Pi,x", "cpu=1,hugepages=0,memory=2Pi",
		}},
	} {
		for _, s := range x.l {
			if v, e := vector.Parse(s); v != none || e != x.e {
				t.Errorf("Parse(%.60q): %v %d, want %d", s, v, e, x.e)
			}
		}
	}
}

// piece is a part of a text: the resource that it names (-1: none), the number that it tells, or its error.
type piece struct {
	s    string
	r, n int
	e    api.Errno
}

// pieces of all kinds, right and wrong.
func pieces() []piece {
	return []piece{
		{"cpu=0", 0, 0, api.OK}, {"cpu=250m", 0, 250, api.OK}, {"cpu=", 0, 0, api.ErrEnd}, {"cpu=1x", 0, 0, api.ErrForm}, {"cpu=00000000000000000000000000001", 0, 0, api.ErrLong}, {"cpu=1.2G", 0, 0, api.ErrOver},
		{"memory=0", 1, 0, api.OK}, {"memory=3Ki", 1, 3072, api.OK}, {"memory=", 1, 0, api.ErrEnd}, {"memory=Ki", 1, 0, api.ErrForm}, {"memory=0.0000000000000000000000000001", 1, 0, api.ErrLong}, {"memory=1.1Pi", 1, 0, api.ErrOver},
		{"hugepages=0", 2, 0, api.OK}, {"hugepages=4Mi", 2, 2 * page, api.OK}, {"hugepages=", 2, 0, api.ErrEnd}, {"hugepages=5Mi", 2, 0, api.ErrForm}, {"hugepages=2Pi", 2, 0, api.ErrOver},
		{"", -1, 0, api.ErrForm}, {"-", -1, 0, api.ErrForm}, {"cpu", -1, 0, api.ErrForm}, {"disk=1", -1, 0, api.ErrForm}, {"=", -1, 0, api.ErrForm},
	}
}

// told is what the document says of parts, one by one.
func told(l []piece) (api.Vector, api.Errno) {
	var p [3]int
	var there [3]bool
	for _, x := range l {
		if x.r >= 0 && there[x.r] {
			return none, api.ErrForm
		}
		if x.e != api.OK {
			return none, x.e
		}
		p[x.r], there[x.r] = x.n, true
	}
	return vec(p[0], p[1], p[2]), api.OK
}

// Two, three and four parts, in every order.
func TestP4_3ParseParts(t *testing.T) {
	var each func(l []piece)
	each = func(l []piece) {
		if len(l) > 1 {
			var texts []string
			for _, x := range l {
				texts = append(texts, x.s)
			}
			s := strings.Join(texts, ",")
			want, wantErr := told(l)
			if v, e := vector.Parse(s); v != want || e != wantErr {
				t.Fatalf("Parse(%q): %v %d, want %v %d", s, v, e, want, wantErr)
			}
		}
		if len(l) == 4 {
			return
		}
		for _, x := range pieces() {
			each(append(slices.Clone(l), x))
		}
	}
	each(nil)
}

// Texts of any bytes: each has an answer, and what is read is right.
func TestP4_3ParseAny(t *testing.T) {
	letters := []string{"c", "p", "u", "cpu", "memory", "hugepages", "=", "=", "=", ",", ",", "-", "1", "2", "0", ".", "m", "Mi", "Pi", "e", " ", "\x00", "\xff", "\u00e4"}
	x := uint64(88172645463325252)
	for range 200000 {
		var b strings.Builder
		for n := x % 12; n > 0; n-- {
			x ^= x << 13
			x ^= x >> 7
			x ^= x << 17
			b.WriteString(letters[x%uint64(len(letters))])
		}
		x ^= x << 13
		x ^= x >> 7
		x ^= x << 17
		v, e := vector.Parse(b.String())
		if !vector.Right(v) || e != api.OK && v != none {
			t.Fatalf("Parse(%q): %v %d", b.String(), v, e)
		}
	}
	for _, s := range []string{strings.Repeat(",", 1<<20), strings.Repeat("=", 1<<20), strings.Repeat("-", 1<<20), strings.Repeat("cpu=1,", 1<<18), strings.Repeat("c", 1<<20)} {
		if v, e := vector.Parse(s); v != none || e != api.ErrForm {
			t.Errorf("Parse(%.20q): %v %d", s, v, e)
		}
	}
}

// between: right vectors beside the edges, near each power of two and of ten.
func between() []api.Vector {
	var l []api.Vector
	for n := range 51 {
		for d := -1; d <= 1; d++ {
			memory := max(min(1<<n+d, mostBytes), 0)
			l = append(l, vec(memory>>10, memory, memory/page*page), vec(mostCPU-memory>>10, mostBytes-memory, (mostBytes-memory)/page*page))
		}
	}
	for n := 1; n <= mostCPU; n *= 10 {
		l = append(l, vec(n, 10*n, page), vec(n-1, n+1, 0), vec(0, 3*n, n/page*page))
	}
	return l
}

func TestP4_4TextIsParsed(t *testing.T) {
	l := between()
	for _, x := range vectors() {
		if x.ok {
			l = append(l, x.v)
		}
	}
	for _, v := range l {
		s := vector.Text(v)
		if got, e := vector.Parse(s); got != v || e != api.OK {
			t.Errorf("Parse(Text(%v)), %q: %v %d", v, s, got, e)
		}
	}
}

func TestP4_4SubUndoesAdd(t *testing.T) {
	l := between()
	undone := 0
	for _, a := range l {
		for _, b := range l {
			sum, ok := vector.Add(a, b)
			if !ok {
				continue
			}
			undone++
			if v, ok := vector.Sub(sum, b); v != a || !ok {
				t.Fatalf("Sub(%v, %v): %v %v, want %v", sum, b, v, ok, a)
			}
			if v, ok := vector.Sub(sum, a); v != b || !ok {
				t.Fatalf("Sub(%v, %v): %v %v, want %v", sum, a, v, ok, b)
			}
		}
	}
	if undone < 1000 {
		t.Errorf("%d alone", undone)
	}
}
