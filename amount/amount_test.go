package amount_test

import (
	"math"
	"math/big"
	"regexp"
	"strconv"
	"strings"
	"testing"

	"berthing/amount"
	"berthing/api"
	"berthing/wide"
)

const most = 1 << 60

var (
	none   = api.Wide{}
	all    = api.Wide{Hi: math.MaxUint64, Lo: math.MaxUint64}
	form   = regexp.MustCompile(`^([0-9]*)(\.?)([0-9]*)(n|u|m||k|M|G|T|P|E|Ki|Mi|Gi|Ti|Pi|Ei|[eE][+-]?[0-9]{1,2})$`)
	powers = map[string]int64{"n": -9, "u": -6, "m": -3, "": 0, "k": 3, "M": 6, "G": 9, "T": 12, "P": 15, "E": 18}
	bits   = map[string]uint{"Ki": 10, "Mi": 20, "Gi": 30, "Ti": 40, "Pi": 50, "Ei": 60}
)

func ten(n int64) *big.Int {
	return new(big.Int).Exp(big.NewInt(10), big.NewInt(n), nil)
}

func toBig(a api.Wide) *big.Int {
	b := new(big.Int).SetUint64(a.Hi)
	b.Lsh(b, 64)
	return b.Or(b, new(big.Int).SetUint64(a.Lo))
}

func fromBig(b *big.Int) api.Wide {
	low := new(big.Int).And(b, new(big.Int).SetUint64(math.MaxUint64))
	return api.Wide{Hi: new(big.Int).Rsh(b, 64).Uint64(), Lo: low.Uint64()}
}

// mostBig is 2^60 units, in billionths.
func mostBig() *big.Int {
	return new(big.Int).Mul(new(big.Int).Lsh(big.NewInt(1), 60), ten(9))
}

func up(r *big.Rat) *big.Int {
	q, rest := new(big.Int).QuoRem(r.Num(), r.Denom(), new(big.Int))
	if rest.Sign() > 0 {
		q.Add(q, big.NewInt(1))
	}
	return q
}

// scale is what a suffix stands for.
func scale(suffix string) *big.Rat {
	if b, ok := bits[suffix]; ok {
		return new(big.Rat).SetInt(new(big.Int).Lsh(big.NewInt(1), b))
	}
	p, ok := powers[suffix]
	if !ok {
		n, err := strconv.Atoi(suffix[1:])
		if err != nil {
			panic(err)
		}
		p = int64(n)
	}
	if p < 0 {
		return new(big.Rat).SetFrac(big.NewInt(1), ten(-p))
	}
	return new(big.Rat).SetInt(ten(p))
}

// parse is what the document says of a text, by fractions.
func parse(s string) (api.Wide, api.Errno) {
	if s == "" {
		return none, api.ErrEnd
	}
	m := form.FindStringSubmatch(s)
	if m == nil || m[1]+m[3] == "" {
		return none, api.ErrForm
	}
	if len(m[1]+m[3]) > 28 {
		return none, api.ErrLong
	}
	n, _ := new(big.Int).SetString(m[1]+m[3], 10)
	r := new(big.Rat).SetFrac(n, ten(int64(len(m[3]))))
	r.Mul(r, scale(m[4]))
	a := up(r.Mul(r, new(big.Rat).SetInt(ten(9))))
	if a.Cmp(mostBig()) > 0 {
		return none, api.ErrOver
	}
	return fromBig(a), api.OK
}

func hold(t *testing.T, s string) {
	t.Helper()
	want, wantErr := parse(s)
	if a, e := amount.Parse(s); a != want || e != wantErr {
		t.Errorf("Parse(%.60q): %v %d, want %v %d", s, a, e, want, wantErr)
	}
}

func suffixes() []string {
	l := []string{"n", "u", "m", "", "k", "M", "G", "T", "P", "E", "Ki", "Mi", "Gi", "Ti", "Pi", "Ei"}
	for _, e := range []string{"e", "E"} {
		for _, sign := range []string{"", "+", "-"} {
			for n := range 100 {
				l = append(l, e+sign+strconv.Itoa(n))
			}
			for n := range 10 {
				l = append(l, e+sign+"0"+strconv.Itoa(n))
			}
		}
	}
	return l
}

// amounts: the edges of what there may be, of each suffix, and some between.
func amounts() []api.Wide {
	var l []api.Wide
	add := func(b *big.Int) {
		for d := int64(-2); d <= 2; d++ {
			x := new(big.Int).Add(b, big.NewInt(d))
			if x.Sign() >= 0 && x.Cmp(mostBig()) <= 0 {
				l = append(l, fromBig(x))
			}
		}
	}
	for n := range int64(28) {
		for k := int64(1); k < 10; k++ {
			add(new(big.Int).Mul(big.NewInt(k), ten(n)))
		}
	}
	for n := range uint(61) {
		add(new(big.Int).Lsh(big.NewInt(1), n))
		for k := int64(1); k < 6; k++ {
			b := new(big.Int).Lsh(big.NewInt(k), n)
			add(new(big.Int).Mul(b, ten(9)))
			add(new(big.Int).Mul(b, ten(6)))
		}
	}
	add(mostBig())
	x := uint64(88172645463325252)
	for i := range 600 {
		x ^= x << 13
		x ^= x >> 7
		x ^= x << 17
		b := new(big.Int).Mul(new(big.Int).SetUint64(x>>(4+i%60)), ten(int64(i%10)))
		add(b)
	}
	return l
}

// over: numbers that are no amounts.
func over() []api.Wide {
	return []api.Wide{fromBig(new(big.Int).Add(mostBig(), big.NewInt(1))), {Hi: 1 << 40}, {Hi: 1 << 63}, {Hi: math.MaxUint64}, all}
}

// plain is what the document says of a plain text.
func plain(b *big.Int) string {
	if b.Sign() == 0 {
		return "0"
	}
	list := []string{"n", "u", "m", "", "k", "M", "G", "T", "P", "E"}
	for i := len(list) - 1; ; i-- {
		q, rest := new(big.Int).QuoRem(b, ten(3*int64(i)), new(big.Int))
		if rest.Sign() == 0 {
			return q.String() + list[i]
		}
	}
}

// binary is what the document says of a binary text.
func binary(b *big.Int) string {
	units, rest := new(big.Int).QuoRem(b, ten(9), new(big.Int))
	if rest.Sign() != 0 || units.Sign() == 0 || units.TrailingZeroBits() < 10 {
		return plain(b)
	}
	list := []string{"Ki", "Mi", "Gi", "Ti", "Pi", "Ei"}
	i := min(units.TrailingZeroBits()/10, 6)
	return new(big.Int).Rsh(units, 10*i).String() + list[i-1]
}

func TestP2_1Examples(t *testing.T) {
	for _, x := range []struct {
		s string
		a api.Wide
	}{
		{"0", none}, {"1", wide.Of(1e9)}, {"1k", wide.Of(1e12)}, {"1e3", wide.Of(1e12)},
		{"100m", wide.Of(1e8)}, {"1.5Gi", wide.Of(1610612736 * 1e9)}, {"1n", wide.Of(1)},
		{"1u", wide.Of(1000)}, {"1m", wide.Of(1e6)}, {"1M", wide.Of(1e15)}, {"1G", wide.Of(1e18)},
		{"1Ki", wide.Of(1024 * 1e9)}, {"1Mi", wide.Of(1048576 * 1e9)},
		{"5.", wide.Of(5e9)}, {".5", wide.Of(5e8)}, {"5.k", wide.Of(5e12)}, {".5Ki", wide.Of(512e9)},
		{"007", wide.Of(7e9)}, {"00", none}, {"0.0", none}, {"1.50", wide.Of(15e8)},
		{"1.e1", wide.Of(1e10)}, {".5E1", wide.Of(5e9)}, {"1E0", wide.Of(1e9)}, {"1e00", wide.Of(1e9)},
		{"1e-9", wide.Of(1)}, {"1E-09", wide.Of(1)}, {"1e+05", wide.Of(1e14)},
	} {
		if a, e := amount.Parse(x.s); a != x.a || e != api.OK {
			t.Errorf("Parse(%q): %v %d", x.s, a, e)
		}
	}
}

func TestP2_1Suffixes(t *testing.T) {
	numbers := []string{
		"0", "1", "1.", ".1", "0.0", "2", "9", "1.5", "1023", "1024", "1025", "0.001", "12.000000001", "12.0000000001", "0.0009765625",
		"1152921504606846976", "1152921504606846977", "1.152921504606846976", "1.152921504606846977", "1.1529215046068469760000000", "1.15292150460684697600000001",
		"1.000000000000000000000000000", "1.000000000000000000000000001", "0.999999999999999999999999999", ".9999999999999999999999999999", ".0000000000000000000000000001",
		"9999999999999999999999999999", "9999999999999999999999999999.", "99999999999999.99999999999999", "0000000000000000000000000001", "0000000000000000000000000000",
		"99999999999999999999999999999", "00000000000000000000000000000", ".00000000000000000000000000000", "0.0000000000000000000000000000", "0.0000000000000000000000000001",
	}
	for _, n := range numbers {
		for _, suffix := range suffixes() {
			hold(t, n+suffix)
		}
	}
}

// Each text of few letters, right or wrong.
func TestP2_1Short(t *testing.T) {
	letters := "01.nmkKMEei+- "
	var each func(s string, n int)
	each = func(s string, n int) {
		hold(t, s)
		if n == 0 {
			return
		}
		for _, c := range letters {
			each(s+string(c), n-1)
		}
	}
	each("", 4)
	for _, s := range []string{"1e", "1E", "1e+", "1E-", "2.E1"} {
		each(s, 3)
	}
}

func TestP2_1End(t *testing.T) {
	if a, e := amount.Parse(""); a != none || e != api.ErrEnd {
		t.Errorf("%v %d", a, e)
	}
}

func TestP2_1Form(t *testing.T) {
	nines := strings.Repeat("9", 40)
	for _, s := range []string{
		".", "..", "..1", "1..", "1.2.3", ".1.", "n", "m", "E", "Ki", "e3", "E3", ".k", ".Ei", ".e1",
		"-1", "+1", "-0", " 1", "1 ", "1 k", "\t1", "1\n", "\n", " ", "\x00", "1\x00", "1,5", "1_000", "0x10",
		"1K", "1g", "1t", "1p", "1U", "1N", "1ki", "1mi", "1KI", "1kI", "1Mi ", "1Kib", "1KB", "1ni", "1ui", "1i", "1Kii", "1Kik", "1mm", "1kk", "1EE", "1Ee", "1Ek",
		"1e", "1e+", "1e-", "1E+", "1E-", "1e++1", "1e--1", "1e+-1", "1e-+1", "1E+ 1", "1e 1", "1e1 ", "1e123", "1E123", "1e001", "1e+000", "1e-123", "1E+123",
		"1e1.5", "1e.5", "1e1k", "1e1n", "1Ei1", "1E1i", "1e1e1", "1k1", "1m.", "1eE", "1ex", "1e1x", "1ex1", "1Ex1", "1d3",
		"\u0661", "1\u00b5", "\uff11", "1\xff", "\xff", "1\xb5", "inf", "NaN",
		nines + "x", nines + ".9.9", nines + "e", nines + "e123", nines + "K", "x" + nines, "-" + nines,
		strings.Repeat("1", 100000) + "!", strings.Repeat(".", 100000), "1e" + strings.Repeat("1", 100000),
	} {
		if a, e := amount.Parse(s); a != none || e != api.ErrForm {
			t.Errorf("Parse(%.50q): %v %d", s, a, e)
		}
	}
	for c := range 256 {
		for _, s := range []string{string([]byte{byte(c)}), string([]byte{'1', byte(c)}), string([]byte{'1', byte(c), 'i'}), string([]byte{'1', 'E', byte(c)}), string([]byte{'1', 'e', '1', byte(c)}), string([]byte{'1', 'e', byte(c), '1'})} {
			hold(t, s)
		}
	}
}

func TestP2_1Long(t *testing.T) {
	for _, suffix := range suffixes() {
		for at := range 30 {
			digits := strings.Repeat("0", 28) + "1"
			s := digits[:at] + "." + digits[at:] + suffix
			if a, e := amount.Parse(s); a != none || e != api.ErrLong {
				t.Errorf("Parse(%q): %v %d", s, a, e)
			}
			s = digits[1:][:min(at, 28)] + "." + digits[1:][min(at, 28):] + suffix
			if _, e := amount.Parse(s); e == api.ErrLong || e == api.ErrForm {
				t.Errorf("Parse(%q): %d", s, e)
			}
		}
	}
	for _, s := range []string{strings.Repeat("9", 29), strings.Repeat("9", 29) + "Ei", strings.Repeat("0", 29) + "e99", strings.Repeat("0", 100000), strings.Repeat("1", 100000) + "." + strings.Repeat("1", 100000) + "n"} {
		if a, e := amount.Parse(s); a != none || e != api.ErrLong {
			t.Errorf("Parse(%.50q): %v %d", s, a, e)
		}
	}
}

func TestP2_1Over(t *testing.T) {
	edge := fromBig(mostBig())
	for _, s := range []string{
		"1Ei", "1.Ei", "1.000000000000000000000000000Ei", "1024Pi", "1125899906842624Ki", "1152921504606846976",
		"1152921504606846976000000000n", "1152921504606846976000000u", "1152921504606846976000m", "1152921504606846.976k",
		"1.152921504606846976E", "1.152921504606846976e18", "1.152921504606846976E+18", "115292150460684697.6E1", "1152921504606846976000000000e-9",
		"1152921504606846976.000000000", ".9999999999999999999999999999Ei",
	} {
		if a, e := amount.Parse(s); a != edge || e != api.OK {
			t.Errorf("Parse(%q): %v %d", s, a, e)
		}
	}
	for _, s := range []string{
		"2Ei", "1.0000000000000000001Ei", "1.000000000000000000000000001Ei", "1025Pi", "1125899906842625Ki", "1152921504606846977",
		"1152921504606846976000000001n", "1152921504606846976000001u", "1152921504606846976001m", "1.152921504606846977E",
		"1152921504606846976.000000001", "1152921504606846976.000000001e0",
		"2E", "1.2e18", "1e19", "1e99", "1E+99", ".0000000000000000000000000001e99", "9999999999999999999999999999Ei", "9999999999999999999999999999e99", "9999999999999999999999999999",
		"99999999999999.99999999999999Ei", "9999999999999999999999999999Ki", "9999999999999999999999999999n",
	} {
		if a, e := amount.Parse(s); a != none || e != api.ErrOver {
			t.Errorf("Parse(%q): %v %d", s, a, e)
		}
	}
	for _, suffix := range suffixes() {
		if a, e := amount.Parse("0" + suffix); a != none || e != api.OK {
			t.Errorf("0%s: %v %d", suffix, a, e)
		}
	}
}

func TestP2_1Billionths(t *testing.T) {
	for _, x := range []struct {
		s string
		n uint64
	}{
		{"0.1n", 1}, {"0.9n", 1}, {"1.1n", 2}, {"1.0n", 1}, {"1.9n", 2}, {"0.0000000001", 1}, {"0.000000001", 1}, {"0.0000000011", 2},
		{"1e-10", 1}, {"1e-99", 1}, {"9999999999999999999999999999e-99", 1}, {"0e-99", 0}, {".0000000000000000000000000001e-99", 1}, {"0.0n", 0},
		{"9999999999999999999999999999e-37", 1}, {"9999999999999999999999999999e-36", 10}, {"1000000000000000000000000000e-36", 1}, {"1000000000000000000000000001e-36", 2}, {"20e-10", 2}, {"21e-10", 3},
		{"1.0001u", 1001}, {"0.0000001m", 1}, {"0.0001u", 1}, {"0.0000000000000000000000001Ki", 1}, {"0.000000000000000000000000001Ei", 2},
		{"0.0000000009765625Ki", 1000}, {"0.00000000000009765625Ki", 1}, {"0.00000000000009765626Ki", 1}, {"0.0000000000009765626Ki", 2}, {"0.0000000000009765625Ki", 1},
	} {
		if a, e := amount.Parse(x.s); a != wide.Of(x.n) || e != api.OK {
			t.Errorf("Parse(%q): %v %d, want %d", x.s, a, e, x.n)
		}
	}
}

func TestP2_1E(t *testing.T) {
	exa := fromBig(ten(27))
	for _, s := range []string{"1E", "1.E", "1.0E", "1e18", "1E18", "1E+18", "1000P", "0.1E19", ".1e+19"} {
		if a, e := amount.Parse(s); a != exa || e != api.OK {
			t.Errorf("Parse(%q): %v %d", s, a, e)
		}
	}
	for _, s := range []string{"1e", "1e+", "1e-", "1E+", "1E-", "e", "1eE", "1EE"} {
		if a, e := amount.Parse(s); a != none || e != api.ErrForm {
			t.Errorf("Parse(%q): %v %d", s, a, e)
		}
	}
}

func TestP2_2Text(t *testing.T) {
	for _, a := range amounts() {
		if s, want := amount.Text(a), plain(toBig(a)); s != want {
			t.Errorf("Text(%v): %q, want %q", a, s, want)
		}
	}
	for _, x := range []struct {
		a api.Wide
		s string
	}{
		{none, "0"}, {wide.Of(1), "1n"}, {wide.Of(999), "999n"}, {wide.Of(1000), "1u"}, {wide.Of(1001), "1001n"}, {wide.Of(1e6), "1m"}, {wide.Of(1e9), "1"}, {wide.Of(15e8), "1500m"},
		{wide.Of(1e12), "1k"}, {wide.Of(1e13), "10k"}, {fromBig(ten(27)), "1E"}, {fromBig(ten(26)), "100P"}, {fromBig(mostBig()), "1152921504606846976"},
		{fromBig(new(big.Int).Sub(mostBig(), big.NewInt(1))), "1152921504606846975999999999n"},
	} {
		if s := amount.Text(x.a); s != x.s {
			t.Errorf("Text(%v): %q, want %q", x.a, s, x.s)
		}
	}
}

func TestP2_2Binary(t *testing.T) {
	for _, a := range amounts() {
		if s, want := amount.Binary(a), binary(toBig(a)); s != want {
			t.Errorf("Binary(%v): %q, want %q", a, s, want)
		}
	}
	for _, x := range []struct {
		n int
		s string
	}{
		{0, "0"}, {1, "1"}, {1000, "1k"}, {1023, "1023"}, {1024, "1Ki"}, {1025, "1025"}, {1536, "1536"}, {2048, "2Ki"}, {1024000, "1000Ki"}, {1 << 20, "1Mi"}, {1610612736, "1536Mi"},
		{1 << 30, "1Gi"}, {1 << 40, "1Ti"}, {1 << 50, "1Pi"}, {1<<60 - 1<<50, "1023Pi"}, {1<<60 - 1, "1152921504606846975"}, {1 << 60, "1Ei"}, {1e18, "976562500000000Ki"},
	} {
		a, _ := amount.OfUnits(x.n)
		if s := amount.Binary(a); s != x.s {
			t.Errorf("Binary of %d units: %q, want %q", x.n, s, x.s)
		}
	}
	// A multiple of 1024 that is no whole units, and one of thousandths.
	if s := amount.Binary(wide.Of(1024)); s != "1024n" {
		t.Errorf("1024 billionths: %q", s)
	}
	if s := amount.Binary(wide.Of(1024 * 1e6)); s != "1024m" {
		t.Errorf("1024 thousandths: %q", s)
	}
}

func TestP2_2TextOver(t *testing.T) {
	for _, a := range over() {
		if s, b := amount.Text(a), amount.Binary(a); s != "" || b != "" {
			t.Errorf("%v: %q %q", a, s, b)
		}
	}
}

func TestP2_2UnitsMilli(t *testing.T) {
	for _, a := range append(amounts(), over()...) {
		for _, x := range []struct {
			what string
			call func(api.Wide) (int, api.Errno)
			each int64
		}{{"Units", amount.Units, 1e9}, {"Milli", amount.Milli, 1e6}} {
			n := up(new(big.Rat).SetFrac(toBig(a), big.NewInt(x.each)))
			want, wantErr := 0, api.ErrOver
			if n.Cmp(big.NewInt(most)) <= 0 {
				want, wantErr = int(n.Int64()), api.OK
			}
			if got, e := x.call(a); got != want || e != wantErr {
				t.Errorf("%s(%v): %d %d, want %d %d", x.what, a, got, e, want, wantErr)
			}
		}
	}
}

func TestP2_2UnitsMilliEdges(t *testing.T) {
	edge := fromBig(mostBig())
	above, _ := wide.Add(edge, wide.Of(1))
	below, _ := wide.Sub(edge, wide.Of(1))
	milli, _ := wide.Times(wide.Of(most), 1e6)
	aboveMilli, _ := wide.Add(milli, wide.Of(1))
	belowMilli, _ := wide.Sub(milli, wide.Of(1))
	for _, x := range []struct {
		a            api.Wide
		units, milli int
		e, f         api.Errno
	}{
		{none, 0, 0, api.OK, api.OK}, {wide.Of(1), 1, 1, api.OK, api.OK}, {wide.Of(1e6), 1, 1, api.OK, api.OK}, {wide.Of(1e6 + 1), 1, 2, api.OK, api.OK},
		{wide.Of(1e9), 1, 1000, api.OK, api.OK}, {wide.Of(1e9 + 1), 2, 1001, api.OK, api.OK},
		{milli, 1152921504606847, most, api.OK, api.OK}, {belowMilli, 1152921504606847, most, api.OK, api.OK}, {aboveMilli, 1152921504606847, 0, api.OK, api.ErrOver},
		{edge, most, 0, api.OK, api.ErrOver}, {below, most, 0, api.OK, api.ErrOver}, {above, 0, 0, api.ErrOver, api.ErrOver}, {all, 0, 0, api.ErrOver, api.ErrOver},
	} {
		n, e := amount.Units(x.a)
		m, f := amount.Milli(x.a)
		if n != x.units || m != x.milli || e != x.e || f != x.f {
			t.Errorf("%v: %d %d %d %d", x.a, n, e, m, f)
		}
	}
}

func TestP2_2OfUnitsOfMilli(t *testing.T) {
	for _, n := range []int{math.MinInt, math.MinInt + 1, -most, -2, -1, 0, 1, 2, 999, 1000, 1024, 1 << 32, 1e18, most - 1, most, most + 1, most + 2, 1 << 61, 1 << 62, math.MaxInt - 1, math.MaxInt} {
		for _, x := range []struct {
			what  string
			call  func(int) (api.Wide, api.Errno)
			count func(api.Wide) (int, api.Errno)
			each  int64
		}{{"OfUnits", amount.OfUnits, amount.Units, 1e9}, {"OfMilli", amount.OfMilli, amount.Milli, 1e6}} {
			want, wantErr := none, api.OK
			switch {
			case n < 0:
				wantErr = api.ErrArg
			case n > most:
				wantErr = api.ErrOver
			default:
				want = fromBig(new(big.Int).Mul(big.NewInt(int64(n)), big.NewInt(x.each)))
			}
			a, e := x.call(n)
			if a != want || e != wantErr {
				t.Errorf("%s(%d): %v %d", x.what, n, a, e)
			}
			if got, f := x.count(a); e == api.OK && (got != n || f != api.OK) {
				t.Errorf("%s(%d), and back: %d %d", x.what, n, got, f)
			}
		}
	}
}

func TestP2_3TextsParsed(t *testing.T) {
	for _, a := range amounts() {
		for _, s := range []string{amount.Text(a), amount.Binary(a)} {
			if back, e := amount.Parse(s); back != a || e != api.OK {
				t.Errorf("%v, %q: %v %d", a, s, back, e)
			}
		}
	}
}

func TestP2_3UnitsOf(t *testing.T) {
	for _, a := range amounts() {
		n, e := amount.Units(a)
		b, f := amount.OfUnits(n)
		if e != api.OK || f != api.OK || wide.Compare(b, a) < 0 {
			t.Errorf("%v: %d %d %v %d", a, n, e, b, f)
			continue
		}
		if more, _ := wide.Sub(b, a); wide.Compare(more, wide.Of(1e9)) >= 0 {
			t.Errorf("%v: %d, more by %v", a, n, more)
		}
	}
}
