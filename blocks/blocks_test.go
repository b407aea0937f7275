package blocks_test

import (
	"iter"
	"math"
	"slices"
	"strings"
	"testing"

	"berthing/api"
	"berthing/blocks"
)

const (
	mostZones  = 8
	mostBlocks = 1 << 30
	least      = math.MinInt
	most       = math.MaxInt
)

// none is what one holds who holds no block.
var none api.Spread

// zone with blocks of memory and of huge pages, and how many of each are reserved.
func zone(memory, huge, memoryReserved, hugeReserved int) api.Zone {
	return api.Zone{Blocks: [2]int{memory, huge}, Reserved: [2]int{memoryReserved, hugeReserved}}
}

func owner(pod, container string, kind int) api.Owner {
	return api.Owner{Pod: pod, Container: container, Kind: kind}
}

// table of zones, which are right ones.
func table(t *testing.T, l ...api.Zone) *blocks.Table {
	t.Helper()
	b, e := blocks.New(l...)
	if e != api.OK || b == nil {
		t.Fatalf("New(%v): %v", l, e)
	}
	return b
}

// put what must go well.
func put(t *testing.T, b *blocks.Table, o api.Owner, s api.Spread) {
	t.Helper()
	if e := b.Put(o, s); e != api.OK {
		t.Fatalf("Put(%v, %v): %v", o, s, e)
	}
}

func collect(seq iter.Seq2[api.Owner, api.Spread]) []api.Hold {
	var l []api.Hold
	for o, s := range seq {
		l = append(l, api.Hold{Owner: o, Spread: s})
	}
	return l
}

// ledger: a table in this file's own means, a list of rows as they came, in the document's words, said again.
type ledger struct {
	zones []api.Zone
	rows  []api.Hold
}

func (l ledger) apart() ledger {
	return ledger{l.zones, slices.Clone(l.rows)}
}

func (l ledger) held(o api.Owner) api.Spread {
	for _, row := range l.rows {
		if row.Owner == o {
			return row.Spread
		}
	}
	return none
}

func (l ledger) room(zone, kind int) int {
	if zone < 0 || zone >= len(l.zones) || kind < 0 || kind > 1 {
		return 0
	}
	return l.zones[zone].Blocks[kind] - l.zones[zone].Reserved[kind]
}

func (l ledger) free(zone, kind int) int {
	free := l.room(zone, kind)
	for _, row := range l.rows {
		if row.Owner.Kind == kind && zone >= 0 && zone < mostZones {
			free -= row.Spread[zone]
		}
	}
	return free
}

func (l ledger) frees(kind int) api.Spread {
	var s api.Spread
	for zone := range s {
		s[zone] = l.free(zone, kind)
	}
	return s
}

func rightName(s string) bool {
	return len(s) >= 1 && len(s) <= 16 && strings.Trim(s, "abcdefghijklmnopqrstuvwxyz0123456789-") == "" && !strings.HasPrefix(s, "-") && !strings.HasSuffix(s, "-")
}

func (l *ledger) put(o api.Owner, s api.Spread) api.Errno {
	if !rightName(o.Pod) || !rightName(o.Container) || o.Kind != 0 && o.Kind != 1 {
		return api.ErrArg
	}
	for zone, n := range s {
		if n < 0 || n > mostBlocks || zone >= len(l.zones) && n > 0 {
			return api.ErrArg
		}
	}
	held := l.held(o)
	for zone, n := range s {
		if n > l.free(zone, o.Kind)+held[zone] {
			return api.ErrFull
		}
	}
	l.drop(func(other api.Owner) bool { return other == o })
	if s != none {
		l.rows = append(l.rows, api.Hold{Owner: o, Spread: s})
	}
	return api.OK
}

func (l *ledger) drop(gone func(api.Owner) bool) int {
	var kept []api.Hold
	for _, row := range l.rows {
		if !gone(row.Owner) {
			kept = append(kept, row)
		}
	}
	n := len(l.rows) - len(kept)
	l.rows = kept
	return n
}

func (l *ledger) release(pod string) int {
	return l.drop(func(o api.Owner) bool { return o.Pod == pod })
}

func ahead(a, b api.Owner) bool {
	if a.Pod != b.Pod {
		return a.Pod < b.Pod
	}
	if a.Container != b.Container {
		return a.Container < b.Container
	}
	return a.Kind < b.Kind
}

// all rows, each one laid ahead of the first that it is ahead of.
func (l ledger) all() []api.Hold {
	var sorted []api.Hold
	for _, row := range l.rows {
		at := 0
		for at < len(sorted) && !ahead(row.Owner, sorted[at].Owner) {
			at++
		}
		sorted = slices.Insert(sorted, at, row)
	}
	return sorted
}

// numbers of zones and kinds: those that there may be, and such that a shift or a narrower kind would take for one.
func numbers() []int {
	return []int{0, 1, 2, 3, 4, 5, 6, 7, 8, 9, 15, 16, 63, 64, 255, 256, 257, 1 << 32, most, -1, -2, -7, -8, -256, -255, least, least + 1}
}

// check holds all that a table tells against a ledger, and that nowhere more is held than its room.
func check(t *testing.T, name string, b *blocks.Table, l ledger) {
	t.Helper()
	if got := b.Zones(); got != len(l.zones) {
		t.Fatalf("%s: Zones: %d", name, got)
	}
	for _, i := range numbers() {
		var want api.Zone
		if i >= 0 && i < len(l.zones) {
			want = l.zones[i]
		}
		if got, ok := b.Zone(i); got != want || ok != (i >= 0 && i < len(l.zones)) {
			t.Fatalf("%s: Zone(%d): %v, %v", name, i, got, ok)
		}
		if got := b.Frees(i); got != l.frees(i) {
			t.Fatalf("%s: Frees(%d): %v, want %v", name, i, got, l.frees(i))
		}
		for _, kind := range []int{0, 1, 2, 3, 8, 256, 257, most, -1, -2, least, least + 1} {
			if got := b.Room(i, kind); got != l.room(i, kind) {
				t.Fatalf("%s: Room(%d, %d): %d", name, i, kind, got)
			}
			if got := b.Free(i, kind); got != l.free(i, kind) {
				t.Fatalf("%s: Free(%d, %d): %d, want %d", name, i, kind, got, l.free(i, kind))
			}
		}
	}
	rows := collect(b.All())
	if !slices.Equal(rows, l.all()) {
		t.Fatalf("%s: All: %v, want %v", name, rows, l.all())
	}
	for _, row := range rows {
		if got := b.Held(row.Owner); got != row.Spread {
			t.Fatalf("%s: Held(%v): %v", name, row.Owner, got)
		}
	}
	within(t, name, b)
}

// within: is what is held in each zone, of each kind, no more than its room, and what is free the rest?
func within(t *testing.T, name string, b *blocks.Table) {
	t.Helper()
	var held [2]api.Spread
	for o, s := range b.All() {
		for zone, n := range s {
			if n < 0 {
				t.Fatalf("%s: %v holds %v", name, o, s)
			}
			held[o.Kind][zone] += n
		}
	}
	for kind := range held {
		for zone, n := range held[kind] {
			if n > b.Room(zone, kind) || b.Free(zone, kind) != b.Room(zone, kind)-n {
				t.Fatalf("%s: zone %d, kind %d: %d held of %d, %d free", name, zone, kind, n, b.Room(zone, kind), b.Free(zone, kind))
			}
		}
	}
}

func TestP8_1New(t *testing.T) {
	z := zone(1, 1, 0, 0)
	for i, x := range []struct {
		l  []api.Zone
		ok bool
	}{
		// How many.
		{nil, false}, {[]api.Zone{}, false}, {[]api.Zone{z}, true}, {[]api.Zone{z, z}, true}, {slices.Repeat([]api.Zone{z}, 7), true}, {slices.Repeat([]api.Zone{z}, 8), true}, {slices.Repeat([]api.Zone{z}, 9), false}, {slices.Repeat([]api.Zone{z}, 16), false}, {slices.Repeat([]api.Zone{z}, 257), false},
		{make([]api.Zone, 1), true}, {make([]api.Zone, 8), true}, {make([]api.Zone, 9), false},
		// Blocks.
		{[]api.Zone{zone(0, 0, 0, 0)}, true}, {[]api.Zone{zone(mostBlocks, mostBlocks, 0, 0)}, true}, {[]api.Zone{zone(mostBlocks+1, 0, 0, 0)}, false}, {[]api.Zone{zone(0, mostBlocks+1, 0, 0)}, false}, {[]api.Zone{zone(-1, 0, 0, 0)}, false}, {[]api.Zone{zone(0, -1, 0, 0)}, false},
		{[]api.Zone{zone(most, 0, 0, 0)}, false}, {[]api.Zone{zone(0, most, 0, 0)}, false}, {[]api.Zone{zone(least, 0, 0, 0)}, false}, {[]api.Zone{zone(0, least, 0, 0)}, false}, {[]api.Zone{zone(1<<32, 0, 0, 0)}, false}, {[]api.Zone{zone(0, 1<<32, 0, 0)}, false},
		// Reserved.
		{[]api.Zone{zone(5, 7, 5, 7)}, true}, {[]api.Zone{zone(5, 7, 4, 6)}, true}, {[]api.Zone{zone(5, 7, 6, 0)}, false}, {[]api.Zone{zone(5, 7, 0, 8)}, false}, {[]api.Zone{zone(5, 7, 7, 5)}, false}, {[]api.Zone{zone(7, 5, 5, 7)}, false}, {[]api.Zone{zone(5, 7, -1, 0)}, false}, {[]api.Zone{zone(5, 7, 0, -1)}, false},
		{[]api.Zone{zone(mostBlocks, mostBlocks, mostBlocks, mostBlocks)}, true}, {[]api.Zone{zone(mostBlocks, mostBlocks, mostBlocks+1, 0)}, false}, {[]api.Zone{zone(mostBlocks, mostBlocks, 0, mostBlocks+1)}, false}, {[]api.Zone{zone(0, 0, 1, 0)}, false}, {[]api.Zone{zone(0, 0, 0, 1)}, false},
		{[]api.Zone{zone(5, 5, most, 0)}, false}, {[]api.Zone{zone(5, 5, 0, most)}, false}, {[]api.Zone{zone(5, 5, least, 0)}, false}, {[]api.Zone{zone(5, 5, 0, least)}, false},
		// Both below 0, and both too great.
		{[]api.Zone{zone(-1, 0, -1, 0)}, false}, {[]api.Zone{zone(0, -1, 0, -1)}, false}, {[]api.Zone{zone(-1, 0, -2, 0)}, false}, {[]api.Zone{zone(mostBlocks+1, 0, mostBlocks+1, 0)}, false}, {[]api.Zone{zone(least, least, least, least)}, false}, {[]api.Zone{zone(most, most, most, most)}, false},
	} {
		b, e := blocks.New(x.l...)
		if x.ok != (e == api.OK) || x.ok != (b != nil) || !x.ok && e != api.ErrArg {
			t.Errorf("%d: New(%v): %v, %v", i, x.l, b, e)
		}
	}
}

// One zone that isn't right, at each place among right ones.
func TestP8_1NewEachPlace(t *testing.T) {
	wrong := []api.Zone{zone(-1, 0, 0, 0), zone(0, -1, 0, 0), zone(mostBlocks+1, 0, 0, 0), zone(0, mostBlocks+1, 0, 0), zone(3, 3, -1, 0), zone(3, 3, 0, -1), zone(3, 3, 4, 0), zone(3, 3, 0, 4)}
	for count := 1; count <= 10; count++ {
		l := slices.Repeat([]api.Zone{zone(4, 4, 4, 0)}, count)
		if _, e := blocks.New(l...); (e == api.OK) != (count <= mostZones) {
			t.Errorf("%d zones: %v", count, e)
		}
		for at := range l {
			for _, z := range wrong {
				one := slices.Clone(l)
				one[at] = z
				if b, e := blocks.New(one...); b != nil || e != api.ErrArg {
					t.Errorf("%v at %d of %d: %v, %v", z, at, count, b, e)
				}
			}
		}
	}
}

// Each number of Blocks with each of Reserved, of either kind.
func TestP8_1NewEachNumber(t *testing.T) {
	l := []int{least, -mostBlocks, -2, -1, 0, 1, 2, 3, mostBlocks - 1, mostBlocks, mostBlocks + 1, 1 << 32, 1<<32 + 1, most}
	for _, n := range l {
		for _, reserved := range l {
			want := 0 <= n && n <= mostBlocks && 0 <= reserved && reserved <= n
			for kind, z := range []api.Zone{zone(n, 9, reserved, 8), zone(9, n, 8, reserved)} {
				b, e := blocks.New(z)
				if (e == api.OK) != want || (b != nil) != want || !want && e != api.ErrArg {
					t.Errorf("kind %d: %d, of these %d reserved: %v", kind, n, reserved, e)
				}
				if want {
					check(t, "one zone", b, ledger{zones: []api.Zone{z}})
				}
			}
		}
	}
}

func TestP8_1NewStays(t *testing.T) {
	l := []api.Zone{zone(1, 2, 0, 1), zone(3, 4, 2, 3), zone(5, 6, 4, 5), zone(7, 8, 6, 7)}
	before := slices.Clone(l)
	b := table(t, l[:3]...)
	put(t, b, owner("p", "a", 0), api.Spread{1})
	if !slices.Equal(l, before) {
		t.Fatalf("%v", l)
	}
	clear(l)
	check(t, "what was handed in is changed", b, ledger{before[:3], []api.Hold{{Owner: owner("p", "a", 0), Spread: api.Spread{1}}}})
}

func TestP8_1ZonesAndRoom(t *testing.T) {
	b := table(t, zone(10, 4, 2, 1), zone(6, 0, 0, 0), zone(mostBlocks, 9, mostBlocks, 0))
	if b.Zones() != 3 {
		t.Errorf("%d zones", b.Zones())
	}
	for _, x := range []struct {
		i    int
		z    api.Zone
		ok   bool
		room [2]int
	}{
		{0, zone(10, 4, 2, 1), true, [2]int{8, 3}}, {1, zone(6, 0, 0, 0), true, [2]int{6, 0}}, {2, zone(mostBlocks, 9, mostBlocks, 0), true, [2]int{0, 9}},
		{3, api.Zone{}, false, [2]int{}}, {7, api.Zone{}, false, [2]int{}}, {8, api.Zone{}, false, [2]int{}}, {-1, api.Zone{}, false, [2]int{}}, {256, api.Zone{}, false, [2]int{}}, {most, api.Zone{}, false, [2]int{}}, {least, api.Zone{}, false, [2]int{}},
	} {
		if z, ok := b.Zone(x.i); z != x.z || ok != x.ok {
			t.Errorf("Zone(%d): %v, %v", x.i, z, ok)
		}
		for kind, want := range x.room {
			if n := b.Room(x.i, kind); n != want {
				t.Errorf("Room(%d, %d): %d", x.i, kind, n)
			}
			if n := b.Free(x.i, kind); n != want {
				t.Errorf("Free(%d, %d): %d", x.i, kind, n)
			}
		}
		for _, kind := range []int{-1, 2, 3, 256, 257, least, most} {
			if room, free := b.Room(x.i, kind), b.Free(x.i, kind); room != 0 || free != 0 {
				t.Errorf("zone %d, kind %d: %d, %d", x.i, kind, room, free)
			}
		}
	}
	if b.Frees(0) != (api.Spread{8, 6, 0}) || b.Frees(1) != (api.Spread{3, 0, 9}) {
		t.Errorf("Frees: %v, %v", b.Frees(0), b.Frees(1))
	}
}

// As many zones as there may be, each with numbers of its own.
func TestP8_1EightZones(t *testing.T) {
	var l []api.Zone
	for i := range mostZones {
		l = append(l, zone(100+i, 200+i, i, 2*i))
		b := table(t, l...)
		check(t, "nobody holds any", b, ledger{zones: l})
		if i > 0 {
			put(t, b, owner("p", "a", 1), api.Spread{7, 5})
			check(t, "one holds some", b, ledger{l, []api.Hold{{Owner: owner("p", "a", 1), Spread: api.Spread{7, 5}}}})
		}
	}
	b := table(t, l...)
	if b.Free(7, 0) != 100 || b.Free(7, 1) != 193 {
		t.Errorf("%d, %d", b.Free(7, 0), b.Free(7, 1))
	}
}

func TestP8_1Free(t *testing.T) {
	b := table(t, zone(10, 10, 2, 0), zone(20, 20, 0, 5))
	put(t, b, owner("p", "a", 0), api.Spread{3, 4})
	put(t, b, owner("p", "b", 0), api.Spread{0, 5})
	put(t, b, owner("q", "a", 1), api.Spread{2})
	if b.Frees(0) != (api.Spread{5, 11}) || b.Frees(1) != (api.Spread{8, 15}) {
		t.Errorf("%v, %v", b.Frees(0), b.Frees(1))
	}
	if b.Free(0, 0) != 5 || b.Free(1, 0) != 11 || b.Free(0, 1) != 8 || b.Free(1, 1) != 15 {
		t.Errorf("Free: %d, %d, %d, %d", b.Free(0, 0), b.Free(1, 0), b.Free(0, 1), b.Free(1, 1))
	}
	// A room stays, whoever holds some of it.
	if b.Room(0, 0) != 8 || b.Room(1, 0) != 20 || b.Room(0, 1) != 10 || b.Room(1, 1) != 15 {
		t.Errorf("Room: %d, %d, %d, %d", b.Room(0, 0), b.Room(1, 0), b.Room(0, 1), b.Room(1, 1))
	}
	for _, kind := range numbers() {
		if s := b.Frees(kind); kind != 0 && kind != 1 && s != none {
			t.Errorf("Frees(%d): %v", kind, s)
		}
	}
}

func TestP8_1Sum(t *testing.T) {
	for i, x := range []struct {
		s    api.Spread
		want int
	}{
		{none, 0}, {api.Spread{1}, 1}, {api.Spread{0, 0, 0, 0, 0, 0, 0, 1}, 1}, {api.Spread{1, 2, 4, 8, 16, 32, 64, 128}, 255}, {api.Spread{0, 3, 0, 5}, 8},
		{api.Spread{mostBlocks, mostBlocks, mostBlocks, mostBlocks, mostBlocks, mostBlocks, mostBlocks, mostBlocks}, 1 << 33},
		{api.Spread{1 << 40}, 1 << 40}, {api.Spread{1 << 40, 1 << 40, 1 << 40, 1 << 40, 1 << 40, 1 << 40, 1 << 40, 1 << 40}, 1 << 43}, {api.Spread{1 << 40, 1, 0, 0, 0, 0, 0, 1 << 40}, 1<<41 + 1},
	} {
		if n := blocks.Sum(x.s); n != x.want {
			t.Errorf("%d: Sum(%v): %d, want %d", i, x.s, n, x.want)
		}
	}
	for at := range mostZones {
		s := none
		s[at] = 1 << 40
		if n := blocks.Sum(s); n != 1<<40 {
			t.Errorf("Sum(%v): %d", s, n)
		}
	}
}

// One table, put after put: what each answers, and what the table is behind it.
func TestP8_2Put(t *testing.T) {
	l := ledger{zones: []api.Zone{zone(10, 4, 2, 1), zone(6, 0, 0, 0)}}
	b := table(t, l.zones...)
	pa, pb, qa, huge := owner("p", "a", 0), owner("p", "b", 0), owner("q", "a", 0), owner("p", "a", 1)
	for i, x := range []struct {
		o api.Owner
		s api.Spread
		e api.Errno
	}{
		// One more than is free, in either zone, and just that.
		{pa, api.Spread{9}, api.ErrFull}, {pa, api.Spread{0, 7}, api.ErrFull}, {pa, api.Spread{9, 7}, api.ErrFull}, {pa, api.Spread{8, 6}, api.OK},
		// The same again, more than there is now, less, what is free and what it held there.
		{pa, api.Spread{8, 6}, api.OK}, {pa, api.Spread{9, 6}, api.ErrFull}, {pa, api.Spread{8, 7}, api.ErrFull}, {pa, api.Spread{3, 6}, api.OK}, {pa, api.Spread{3, 2}, api.OK}, {pa, api.Spread{8, 6}, api.OK}, {pa, api.Spread{4, 2}, api.OK},
		// Beside it.
		{pb, api.Spread{5, 4}, api.ErrFull}, {pb, api.Spread{4, 5}, api.ErrFull}, {pb, api.Spread{4, 4}, api.OK}, {qa, api.Spread{1}, api.ErrFull}, {qa, api.Spread{0, 1}, api.ErrFull}, {qa, none, api.OK}, {pb, api.Spread{5, 4}, api.ErrFull}, {pb, api.Spread{1, 1}, api.OK}, {qa, api.Spread{3, 3}, api.OK},
		// From one zone to another.
		{pa, api.Spread{0, 2}, api.OK}, {pb, api.Spread{5}, api.OK}, {pa, api.Spread{0, 3}, api.OK}, {pa, api.Spread{0, 4}, api.ErrFull}, {pa, api.Spread{1, 3}, api.ErrFull},
		// The other kind has a room of its own.
		{huge, api.Spread{4}, api.ErrFull}, {huge, api.Spread{0, 1}, api.ErrFull}, {huge, api.Spread{3, 1}, api.ErrFull}, {huge, api.Spread{3}, api.OK}, {owner("q", "a", 1), api.Spread{1}, api.ErrFull}, {huge, api.Spread{2}, api.OK}, {owner("q", "a", 1), api.Spread{1}, api.OK},
		// Noughts: of one who holds some, of one who holds none, and again.
		{pa, none, api.OK}, {pa, none, api.OK}, {owner("x", "y", 1), none, api.OK}, {qa, api.Spread{3, 6}, api.OK}, {qa, none, api.OK}, {huge, none, api.OK},
	} {
		if e := b.Put(x.o, x.s); e != x.e {
			t.Errorf("%d: Put(%v, %v): %v, want %v", i, x.o, x.s, e, x.e)
		}
		l.put(x.o, x.s)
		check(t, "behind a Put", b, l)
	}
}

func TestP8_2PutOwner(t *testing.T) {
	l := ledger{zones: []api.Zone{zone(5, 5, 0, 0)}}
	b := table(t, l.zones...)
	put(t, b, owner("p", "a", 0), api.Spread{2})
	l.put(owner("p", "a", 0), api.Spread{2})
	long := strings.Repeat("z", 16)
	wrong := []string{"", "-", "-a", "a-", "A", "a b", "a_b", "a.b", "a/b", " a", "a\n", "a\x00", "é", "\xff", long + "z", long + "-", strings.Repeat("a", 1<<16)}
	var owners []api.Owner
	for _, name := range wrong {
		owners = append(owners, owner(name, "a", 0), owner("p", name, 0), owner(name, name, 1), owner(name, "a", 2))
	}
	for _, kind := range []int{-1, -2, 2, 3, 255, 256, 257, 1 << 32, least, least + 1, most} {
		owners = append(owners, owner("p", "a", kind))
	}
	owners = append(owners, api.Owner{})
	for _, o := range owners {
		// ErrArg too where there is no room, and of noughts.
		for _, s := range []api.Spread{none, {1}, {3}, {4}, {6}, {-1}, {mostBlocks + 1}, {0, 1}} {
			if e := b.Put(o, s); e != api.ErrArg {
				t.Errorf("Put(%.40v, %v): %v", o, s, e)
			}
		}
		if s := b.Held(o); s != none {
			t.Errorf("Held(%.40v): %v", o, s)
		}
		check(t, "behind wrong owners", b, l)
	}
	for _, name := range []string{"p", "0", "9-9", "a--b", long, "a" + strings.Repeat("-", 14) + "z"} {
		for kind := range 2 {
			put(t, b, owner(name, name, kind), api.Spread{1})
			l.put(owner(name, name, kind), api.Spread{1})
			check(t, "behind right owners", b, l)
			put(t, b, owner(name, name, kind), none)
			l.put(owner(name, name, kind), none)
		}
	}
}

// Numbers of each kind, at each place, in tables of one zone to eight.
func TestP8_2PutNumbers(t *testing.T) {
	o := owner("p", "a", 1)
	for count := 1; count <= mostZones; count++ {
		l := ledger{zones: slices.Repeat([]api.Zone{zone(0, mostBlocks, 0, 3)}, count)}
		b := table(t, l.zones...)
		put(t, b, o, api.Spread{5})
		l.put(o, api.Spread{5})
		for at := range mostZones {
			for _, n := range []int{least, -mostBlocks, -1, 0, 1, mostBlocks - 4, mostBlocks - 3, mostBlocks - 2, mostBlocks, mostBlocks + 1, 1 << 32, 1 << 40, most} {
				s := none
				s[at] = n
				want := api.OK
				switch {
				case n < 0 || n > mostBlocks || n > 0 && at >= count:
					want = api.ErrArg
				case n > mostBlocks-3:
					want = api.ErrFull
				}
				if e := b.Put(o, s); e != want {
					t.Errorf("%d zones: Put(%v): %v, want %v", count, s, e, want)
				}
				if e := l.put(o, s); e != want {
					t.Errorf("%d zones: %v: this file's own words: %v, want %v", count, s, e, want)
				}
				if b.Held(o) != l.held(o) || b.Frees(1) != l.frees(1) {
					t.Fatalf("%d zones: behind Put(%v): %v", count, s, b.Held(o))
				}
			}
		}
		check(t, "behind numbers", b, l)
	}
}

func TestP8_2PutMost(t *testing.T) {
	b := table(t, slices.Repeat([]api.Zone{zone(mostBlocks, mostBlocks, 0, 0)}, mostZones)...)
	var all api.Spread
	for i := range all {
		all[i] = mostBlocks
	}
	put(t, b, owner("p", "a", 0), all)
	put(t, b, owner("p", "a", 1), all)
	if b.Frees(0) != none || b.Frees(1) != none || blocks.Sum(b.Held(owner("p", "a", 0))) != 1<<33 {
		t.Errorf("%v, %v, %v", b.Frees(0), b.Frees(1), b.Held(owner("p", "a", 0)))
	}
	for i := range all {
		one, more := none, all
		one[i] = 1
		more[i]++
		if e := b.Put(owner("p", "b", 0), one); e != api.ErrFull {
			t.Errorf("%v: %v", one, e)
		}
		if e := b.Put(owner("p", "a", 0), more); e != api.ErrArg {
			t.Errorf("%v: %v", more, e)
		}
	}
	put(t, b, owner("p", "a", 0), all)
	within(t, "all of it", b)
}

// Where several errors apply, it is ErrArg, whichever zone has it.
func TestP8_2PutSeveral(t *testing.T) {
	l := ledger{zones: []api.Zone{zone(3, 3, 0, 0), zone(3, 3, 0, 0)}}
	b := table(t, l.zones...)
	put(t, b, owner("p", "a", 0), api.Spread{1, 1})
	l.put(owner("p", "a", 0), api.Spread{1, 1})
	for _, s := range []api.Spread{{4, -1}, {-1, 4}, {4, mostBlocks + 1}, {mostBlocks + 1, 4}, {4, 0, 1}, {0, 4, 1}, {4, 4, 0, 0, 0, 0, 0, 1}, {1, 1, 0, 0, 0, 0, 0, -1}, {most, most, most}, {least, least, least}, {-1, 1}, {1, -1}} {
		for _, o := range []api.Owner{owner("p", "a", 0), owner("p", "b", 0), owner("p", "a", 1)} {
			if e := b.Put(o, s); e != api.ErrArg {
				t.Errorf("Put(%v, %v): %v", o, s, e)
			}
		}
		if e := b.Put(owner("p", "-", 0), s); e != api.ErrArg {
			t.Errorf("%v: %v", s, e)
		}
		check(t, "behind several errors", b, l)
	}
}

// What is put in the place of what is held, for two owners, of all numbers about the room.
func TestP8_2PutEachWithEach(t *testing.T) {
	const room = 3
	a, c := owner("p", "a", 0), owner("p", "c", 0)
	for first := range room + 1 {
		for second := range room + 1 - first {
			for n := range room + 2 {
				b := table(t, zone(room+2, 0, 2, 0))
				put(t, b, a, api.Spread{first})
				put(t, b, c, api.Spread{second})
				held, want := first, api.ErrFull
				if n+second <= room {
					held, want = n, api.OK
				}
				if e := b.Put(a, api.Spread{n}); e != want || b.Held(a) != (api.Spread{held}) || b.Held(c) != (api.Spread{second}) || b.Free(0, 0) != room-held-second {
					t.Errorf("%d and %d, then %d: %v, %v", first, second, n, e, b.Held(a))
				}
			}
		}
	}
}

func TestP8_2Held(t *testing.T) {
	b := table(t, zone(9, 9, 0, 0), zone(9, 9, 0, 0))
	o := owner("p", "a", 0)
	if b.Held(o) != none {
		t.Errorf("%v of nobody's", b.Held(o))
	}
	put(t, b, o, api.Spread{1, 2})
	for _, other := range []api.Owner{owner("p", "a", 1), owner("p", "b", 0), owner("q", "a", 0), owner("a", "p", 0), owner("pa", "", 0), owner("", "pa", 0), owner("p", "a", 2), owner("p", "a", -1), owner("p", "a", 256), {}} {
		if s := b.Held(other); s != none {
			t.Errorf("Held(%v): %v", other, s)
		}
	}
	held := b.Held(o)
	if held != (api.Spread{1, 2}) {
		t.Errorf("%v", held)
	}
	put(t, b, o, api.Spread{0, 1})
	if b.Held(o) != (api.Spread{0, 1}) || held != (api.Spread{1, 2}) {
		t.Errorf("%v, %v ahead", b.Held(o), held)
	}
	put(t, b, o, none)
	if b.Held(o) != none {
		t.Errorf("%v behind noughts", b.Held(o))
	}
}

func TestP8_2Release(t *testing.T) {
	l := ledger{zones: []api.Zone{zone(20, 20, 0, 0), zone(20, 20, 0, 0)}}
	b := table(t, l.zones...)
	if n := b.Release("p"); n != 0 {
		t.Errorf("%d of an empty table", n)
	}
	for i, o := range []api.Owner{owner("p", "a", 0), owner("p", "a", 1), owner("p", "b", 1), owner("p", "c", 0), owner("q", "p", 0), owner("q", "p", 1), owner("pp", "a", 0), owner("p-p", "a", 0), owner("p0", "p", 1)} {
		put(t, b, o, api.Spread{1, i})
		l.put(o, api.Spread{1, i})
	}
	// Noughts are nothing that one holds.
	put(t, b, owner("p", "d", 0), none)
	put(t, b, owner("p", "c", 0), none)
	l.put(owner("p", "c", 0), none)
	for _, x := range []struct {
		pod  string
		want int
	}{{"a", 0}, {"", 0}, {"-", 0}, {"P", 0}, {"p\x00", 0}, {"ppp", 0}, {"p", 3}, {"p", 0}, {"p0", 1}, {"q", 2}, {"q", 0}, {"pp", 1}, {"p-p", 1}, {"p-p", 0}} {
		if n := b.Release(x.pod); n != x.want {
			t.Errorf("Release(%q): %d, want %d", x.pod, n, x.want)
		}
		if n := l.release(x.pod); n != x.want {
			t.Errorf("%q: this file's own words: %d, want %d", x.pod, n, x.want)
		}
		check(t, "behind a Release", b, l)
	}
	// What is released is there for others.
	put(t, b, owner("q", "a", 0), api.Spread{20, 20})
}

func TestP8_3All(t *testing.T) {
	b := table(t, zone(200, 200, 0, 0), zone(9, 9, 0, 0))
	if l := collect(b.All()); len(l) != 0 {
		t.Errorf("%v in an empty table", l)
	}
	// Byte by byte: a hyphen ahead of digits, digits ahead of letters, a beginning ahead of what is longer; and pod by pod, not both names as one.
	want := []api.Owner{
		owner("0", "z", 0), owner("10", "a", 1), owner("9", "a", 0), owner("a", "a", 0), owner("a", "a", 1), owner("a", "a-b", 0), owner("a", "a0", 1), owner("a", "aa", 0), owner("a", "b", 0), owner("a", "b", 1), owner("a", "zz", 0), owner("a-b", "a", 0), owner("a0", "a", 0), owner("aa", "a", 1), owner("ab", "0", 0), owner("ab", "a", 0), owner("b", "a", 0), owner("b", "a", 1), owner("b", "aa", 1), owner("b", "b", 0), owner("z", "10", 0), owner("z", "9", 0),
	}
	// Forwards, backwards, and from within.
	for step := range len(want) {
		if gcd(step, len(want)) != 1 {
			continue
		}
		b := table(t, zone(300, 300, 0, 0))
		for i := range want {
			at := (i*step + 5) % len(want)
			put(t, b, want[at], api.Spread{at + 1})
		}
		for i, row := range collect(b.All()) {
			if row.Owner != want[i] || row.Spread != (api.Spread{i + 1}) {
				t.Errorf("step %d: at %d: %v, want %v", step, i, row, want[i])
			}
		}
		if n := len(collect(b.All())); n != len(want) {
			t.Errorf("step %d: %d owners", step, n)
		}
	}
}

func gcd(a, b int) int {
	for b != 0 {
		a, b = b, a%b
	}
	return a
}

// some holds: a table of five owners, and its rows, in order.
func some(t *testing.T) (*blocks.Table, []api.Hold) {
	t.Helper()
	b := table(t, zone(50, 50, 0, 0), zone(50, 50, 0, 0))
	l := []api.Hold{{Owner: owner("a", "b", 0), Spread: api.Spread{1}}, {Owner: owner("a", "b", 1), Spread: api.Spread{0, 2}}, {Owner: owner("a", "c", 0), Spread: api.Spread{3, 3}}, {Owner: owner("b", "a", 1), Spread: api.Spread{4}}, {Owner: owner("c", "a", 0), Spread: api.Spread{5, 1}}}
	for _, i := range []int{3, 0, 4, 2, 1} {
		put(t, b, l[i].Owner, l[i].Spread)
	}
	return b, l
}

// Left off ahead of the first one, behind each one, and behind the last one: then nothing more comes; and whoever goes through again has it from the beginning.
func TestP8_3AllLeftOff(t *testing.T) {
	b, want := some(t)
	for _, seq := range []iter.Seq2[api.Owner, api.Spread]{b.All(), b.All()} {
		next, stop := iter.Pull2(seq)
		stop()
		if o, s, ok := next(); ok || o != (api.Owner{}) || s != none {
			t.Fatalf("left off ahead of the first one: %v, %v", o, s)
		}
		for most := 1; most <= len(want); most++ {
			var got []api.Hold
			seq(func(o api.Owner, s api.Spread) bool {
				got = append(got, api.Hold{Owner: o, Spread: s})
				return len(got) < most
			})
			if !slices.Equal(got, want[:most]) {
				t.Fatalf("left off behind %d: %v", most, got)
			}
			got = nil
			for o, s := range seq {
				got = append(got, api.Hold{Owner: o, Spread: s})
				if len(got) == most {
					break
				}
			}
			if !slices.Equal(got, want[:most]) {
				t.Fatalf("broken off behind %d: %v", most, got)
			}
		}
		for range 2 {
			if got := collect(seq); !slices.Equal(got, want) {
				t.Fatalf("again: %v", got)
			}
		}
	}
}

// Two that go through at once don't disturb each other.
func TestP8_3AllAtOnce(t *testing.T) {
	b, want := some(t)
	seq := b.All()
	i := 0
	for o := range seq {
		if got := collect(seq); o != want[i].Owner || !slices.Equal(got, want) {
			t.Fatalf("at %d: %v, within it %v", i, o, got)
		}
		i++
	}
	if i != len(want) {
		t.Fatalf("%d of %d", i, len(want))
	}
}

// What is done while one goes through, at each place, isn't told there, but to who asks anew.
func TestP8_3AllWhile(t *testing.T) {
	for at := range 5 {
		for name, change := range map[string]func(*blocks.Table){
			"more":    func(b *blocks.Table) { b.Put(owner("c", "a", 0), api.Spread{9}) },
			"less":    func(b *blocks.Table) { b.Put(owner("a", "c", 0), api.Spread{1}) },
			"none":    func(b *blocks.Table) { b.Put(owner("b", "a", 1), none) },
			"ahead":   func(b *blocks.Table) { b.Put(owner("0", "a", 0), api.Spread{1}) },
			"between": func(b *blocks.Table) { b.Put(owner("a", "b-b", 1), api.Spread{1}) },
			"behind":  func(b *blocks.Table) { b.Put(owner("z", "z", 1), api.Spread{1}) },
			"many": func(b *blocks.Table) {
				for _, c := range "abcdefghijklmnopqrstuvwxyz" {
					b.Put(owner("d", string(c), 0), api.Spread{1})
				}
			},
			"release": func(b *blocks.Table) { b.Release("a") },
			"all":     func(b *blocks.Table) { b.Release("c"); b.Release("b"); b.Release("a") },
		} {
			b, want := some(t)
			other, _ := some(t)
			change(other)
			seq := b.All()
			var got []api.Hold
			for o, s := range seq {
				if len(got) == at {
					change(b)
				}
				got = append(got, api.Hold{Owner: o, Spread: s})
			}
			if !slices.Equal(got, want) {
				t.Errorf("%s at %d: %v", name, at, got)
			}
			if got = collect(seq); !slices.Equal(got, want) {
				t.Errorf("%s at %d: again: %v", name, at, got)
			}
			if !blocks.Same(b, other) || !slices.Equal(collect(b.All()), collect(other.All())) || slices.Equal(collect(b.All()), want) {
				t.Errorf("%s at %d: behind it: %v", name, at, collect(b.All()))
			}
		}
	}
}

// What is done behind All, and ahead of who goes through.
func TestP8_3AllAsAsked(t *testing.T) {
	b, want := some(t)
	seq := b.All()
	empty := table(t, zone(9, 9, 0, 0))
	nothing := empty.All()
	b.Release("a")
	put(t, b, owner("c", "a", 0), api.Spread{7})
	put(t, b, owner("x", "a", 0), api.Spread{7})
	put(t, empty, owner("x", "a", 0), api.Spread{7})
	if got := collect(seq); !slices.Equal(got, want) {
		t.Errorf("%v", got)
	}
	if got := collect(nothing); len(got) != 0 {
		t.Errorf("of an empty one: %v", got)
	}
	if got := collect(b.All()); len(got) != 3 || got[1].Spread != (api.Spread{7}) {
		t.Errorf("anew: %v", got)
	}
}

func TestP8_3Clone(t *testing.T) {
	b, rows := some(t)
	l := ledger{[]api.Zone{zone(50, 50, 0, 0), zone(50, 50, 0, 0)}, rows}
	c := b.Clone()
	if c == b || !blocks.Same(b, c) {
		t.Fatal("no other one")
	}
	check(t, "a clone", c, l)
	// One is changed, and then the other one.
	other := l.apart()
	c.Release("a")
	other.release("a")
	put(t, c, owner("x", "y", 1), api.Spread{45, 50})
	other.put(owner("x", "y", 1), api.Spread{45, 50})
	check(t, "a clone that is changed", c, other)
	check(t, "its other one", b, l)
	put(t, b, owner("a", "b", 0), api.Spread{0, 40})
	l.put(owner("a", "b", 0), api.Spread{0, 40})
	b.Release("c")
	l.release("c")
	check(t, "the other one that is changed", b, l)
	check(t, "its clone", c, other)
	d := c.Clone().Clone()
	c.Release("x")
	check(t, "a clone's clone", d, other)
	empty := table(t, zone(0, 1, 0, 0))
	again := empty.Clone()
	put(t, again, owner("p", "a", 1), api.Spread{1})
	check(t, "an empty one", empty, ledger{zones: []api.Zone{zone(0, 1, 0, 0)}})
	check(t, "an empty one's clone", again, ledger{[]api.Zone{zone(0, 1, 0, 0)}, []api.Hold{{Owner: owner("p", "a", 1), Spread: api.Spread{1}}}})
}

func TestP8_3Same(t *testing.T) {
	with := func(zones []api.Zone, l ...api.Hold) *blocks.Table {
		b := table(t, zones...)
		for _, row := range l {
			put(t, b, row.Owner, row.Spread)
		}
		return b
	}
	a, c, huge := owner("p", "a", 0), owner("p", "c", 0), owner("p", "a", 1)
	one, two := []api.Zone{zone(5, 5, 0, 0)}, []api.Zone{zone(5, 5, 0, 0), zone(0, 0, 0, 0)}
	// All unlike, each one said in two ways.
	tables := [][2]*blocks.Table{
		{nil, nil},
		{with(one), with(one, api.Hold{Owner: a, Spread: api.Spread{}}, api.Hold{Owner: c, Spread: api.Spread{}})},
		{with(two), with(two)},
		{with([]api.Zone{zone(0, 0, 0, 0), zone(5, 5, 0, 0)}), with([]api.Zone{zone(0, 0, 0, 0), zone(5, 5, 0, 0)})},
		{with([]api.Zone{zone(6, 5, 0, 0)}), with([]api.Zone{zone(6, 5, 0, 0)})},
		{with([]api.Zone{zone(5, 6, 0, 0)}), with([]api.Zone{zone(5, 6, 0, 0)})},
		// As much room, but of another zone.
		{with([]api.Zone{zone(6, 5, 1, 0)}), with([]api.Zone{zone(6, 5, 1, 0)})},
		{with([]api.Zone{zone(5, 6, 0, 1)}), with([]api.Zone{zone(5, 6, 0, 1)})},
		{with([]api.Zone{zone(5, 5, 1, 0)}), with([]api.Zone{zone(5, 5, 1, 0)})},
		{with(one, api.Hold{Owner: a, Spread: api.Spread{1}}), with(one, api.Hold{Owner: a, Spread: api.Spread{5}}, api.Hold{Owner: a, Spread: api.Spread{1}})},
		{with(two, api.Hold{Owner: a, Spread: api.Spread{1}}), with(two, api.Hold{Owner: a, Spread: api.Spread{1}})},
		{with(one, api.Hold{Owner: a, Spread: api.Spread{2}}), with(one, api.Hold{Owner: a, Spread: api.Spread{2}}, api.Hold{Owner: c, Spread: api.Spread{}})},
		{with(one, api.Hold{Owner: c, Spread: api.Spread{1}}), with(one, api.Hold{Owner: c, Spread: api.Spread{1}})},
		{with(one, api.Hold{Owner: huge, Spread: api.Spread{1}}), with(one, api.Hold{Owner: huge, Spread: api.Spread{1}})},
		{with(one, api.Hold{Owner: a, Spread: api.Spread{1}}, api.Hold{Owner: c, Spread: api.Spread{2}}), with(one, api.Hold{Owner: c, Spread: api.Spread{2}}, api.Hold{Owner: a, Spread: api.Spread{1}})},
		{with(one, api.Hold{Owner: a, Spread: api.Spread{2}}, api.Hold{Owner: c, Spread: api.Spread{1}}), with(one, api.Hold{Owner: c, Spread: api.Spread{1}}, api.Hold{Owner: a, Spread: api.Spread{2}})},
		{with([]api.Zone{zone(5, 5, 0, 0), zone(5, 5, 0, 0)}, api.Hold{Owner: a, Spread: api.Spread{1, 2}}), with([]api.Zone{zone(5, 5, 0, 0), zone(5, 5, 0, 0)}, api.Hold{Owner: a, Spread: api.Spread{1, 2}})},
		{with([]api.Zone{zone(5, 5, 0, 0), zone(5, 5, 0, 0)}, api.Hold{Owner: a, Spread: api.Spread{2, 1}}), with([]api.Zone{zone(5, 5, 0, 0), zone(5, 5, 0, 0)}, api.Hold{Owner: a, Spread: api.Spread{2, 1}})},
	}
	for i, x := range tables {
		for j, y := range tables {
			for _, p := range x {
				for _, q := range y {
					if got := blocks.Same(p, q); got != (i == j) {
						t.Errorf("%d and %d: %v", i, j, got)
					}
				}
			}
		}
	}
}

// Same is told of what they hold now, not of what they held.
func TestP8_3SameAgain(t *testing.T) {
	a, _ := some(t)
	b, _ := some(t)
	put(t, b, owner("x", "y", 0), api.Spread{1})
	if blocks.Same(a, b) || blocks.Same(b, a) {
		t.Error("one holds more")
	}
	b.Release("x")
	if !blocks.Same(a, b) {
		t.Error("released")
	}
	put(t, b, owner("a", "b", 0), none)
	if blocks.Same(a, b) || blocks.Same(b, a) {
		t.Error("one holds none")
	}
	put(t, b, owner("a", "b", 0), api.Spread{1})
	if !blocks.Same(a, b) || !blocks.Same(a, a) {
		t.Error("put again")
	}
}

// dice throw the same numbers each time.
type dice uint64

// below n, a number from 0 on.
func (d *dice) below(n int) int {
	*d = *d*6364136223846793005 + 1442695040888963407
	return int(uint64(*d)>>33) % n
}

func pick[T any](d *dice, l ...T) T {
	return l[d.below(len(l))]
}

// spread about what a table has: mostly small numbers, at times what is free and what is held, one more, or one that may not be.
func (d *dice) spread(l ledger, o api.Owner) api.Spread {
	var s api.Spread
	held := l.held(o)
	for zone := range len(l.zones) {
		free := l.free(zone, o.Kind) + held[zone]
		s[zone] = pick(d, 0, 0, 0, d.below(4), d.below(free+1), free, held[zone])
	}
	if d.below(4) == 0 {
		zone := d.below(mostZones)
		s[zone] = pick(d, l.free(zone, o.Kind)+held[zone]+1, -1, 1, mostBlocks, mostBlocks+1, most, least)
	}
	return s
}

// step does one thing to a table and to its ledger.
func (d *dice) step(t *testing.T, b *blocks.Table, l *ledger) {
	t.Helper()
	if d.below(10) == 0 {
		pod := pick(d, "a", "b", "ab", "b-a", "", "-")
		if got, want := b.Release(pod), l.release(pod); got != want {
			t.Fatalf("Release(%q): %d, want %d", pod, got, want)
		}
		return
	}
	o := owner(pick(d, "a", "b", "ab", "b-a"), pick(d, "a", "b", "ab"), d.below(2))
	if d.below(20) == 0 {
		o = pick(d, owner("", o.Container, o.Kind), owner(o.Pod, "B", o.Kind), owner(o.Pod, o.Container, 2), owner(o.Pod, o.Container, -1))
	}
	s := d.spread(*l, o)
	if got, want := b.Put(o, s), l.put(o, s); got != want {
		t.Fatalf("Put(%v, %v): %v, want %v", o, s, got, want)
	}
}

// Whatever is done, what is held in a zone is no more than its room, and all is as this file's own words have it, of clones too.
func TestP8_4Within(t *testing.T) {
	var d dice
	for _, zones := range [][]api.Zone{
		{zone(0, 0, 0, 0)}, {zone(1, 2, 0, 1)}, {zone(10, 4, 2, 1), zone(6, 0, 0, 0)}, {zone(5, 5, 5, 0), zone(9, 9, 0, 9), zone(7, 7, 2, 3)},
		{zone(mostBlocks, mostBlocks, 0, 1), zone(mostBlocks, 3, mostBlocks-1, 0)},
		{zone(1, 8, 0, 0), zone(2, 7, 0, 0), zone(3, 6, 0, 0), zone(4, 5, 0, 0), zone(5, 4, 0, 0), zone(6, 3, 0, 0), zone(7, 2, 0, 0), zone(8, 1, 0, 0)},
	} {
		tables, ledgers := []*blocks.Table{table(t, zones...)}, []ledger{{zones: zones}}
		for n := range 3000 {
			at := d.below(len(tables))
			d.step(t, tables[at], &ledgers[at])
			if n%100 == 99 {
				from := d.below(len(tables))
				to := (from + 1) % 3
				if to == len(tables) {
					tables, ledgers = append(tables, nil), append(ledgers, ledger{})
				}
				tables[to], ledgers[to] = tables[from].Clone(), ledgers[from].apart()
			}
			for i, b := range tables {
				within(t, "a walk", b)
				if i == at || n%10 == 0 {
					check(t, "a walk", b, ledgers[i])
				}
				if got, want := blocks.Same(b, tables[0]), slices.Equal(ledgers[i].all(), ledgers[0].all()); got != want {
					t.Fatalf("Same: %v", got)
				}
			}
		}
	}
}

// Many owners fill a zone block by block; then none is left for anybody.
func TestP8_4Filled(t *testing.T) {
	b := table(t, zone(30, 30, 4, 0))
	for kind, room := range []int{26, 30} {
		for i := range room {
			put(t, b, owner("p", "c"+string(rune('a'+i%26))+string(rune('0'+i/26)), kind), api.Spread{1})
			within(t, "filling", b)
		}
		if b.Free(0, kind) != 0 || len(collect(b.All())) != 26+30*kind {
			t.Errorf("kind %d: %d free", kind, b.Free(0, kind))
		}
		for _, o := range []api.Owner{owner("p", "x", kind), owner("a", "a", kind), owner("z", "z", kind)} {
			if e := b.Put(o, api.Spread{1}); e != api.ErrFull {
				t.Errorf("%v: %v", o, e)
			}
		}
		if e := b.Put(owner("p", "ca0", kind), api.Spread{2}); e != api.ErrFull {
			t.Errorf("one more: %v", e)
		}
	}
	if n := b.Release("p"); n != 56 || b.Free(0, 0) != 26 || b.Free(0, 1) != 30 {
		t.Errorf("%d released, %d and %d free", n, b.Free(0, 0), b.Free(0, 1))
	}
}

func TestP8_1Nil(t *testing.T) {
	var b *blocks.Table
	if b.Zones() != 0 {
		t.Errorf("Zones: %d", b.Zones())
	}
	for _, i := range numbers() {
		if z, ok := b.Zone(i); z != (api.Zone{}) || ok {
			t.Errorf("Zone(%d): %v, %v", i, z, ok)
		}
		if b.Frees(i) != none {
			t.Errorf("Frees(%d): %v", i, b.Frees(i))
		}
		for _, kind := range numbers() {
			if b.Room(i, kind) != 0 || b.Free(i, kind) != 0 {
				t.Errorf("zone %d, kind %d: %d, %d", i, kind, b.Room(i, kind), b.Free(i, kind))
			}
		}
	}
}

func TestP8_2Nil(t *testing.T) {
	var b *blocks.Table
	// ErrNil ahead of whatever else is wrong.
	for _, o := range []api.Owner{owner("p", "a", 0), owner("p", "a", 1), owner("", "a", 0), owner("p", "-", 0), owner("p", "a", 2), {}} {
		for _, s := range []api.Spread{none, {1}, {-1}, {mostBlocks + 1}} {
			if e := b.Put(o, s); e != api.ErrNil {
				t.Errorf("Put(%v, %v): %v", o, s, e)
			}
		}
		if b.Held(o) != none {
			t.Errorf("Held(%v): %v", o, b.Held(o))
		}
	}
	if b.Release("p") != 0 || b.Release("") != 0 {
		t.Error("Release")
	}
}

func TestP8_3Nil(t *testing.T) {
	var b *blocks.Table
	seq := b.All()
	if seq == nil {
		t.Fatal("no iterator")
	}
	for o := range seq {
		t.Errorf("%v", o)
	}
	if b.Clone() != nil {
		t.Error("Clone")
	}
	one := table(t, zone(0, 0, 0, 0))
	if !blocks.Same(b, nil) || !blocks.Same(b, b.Clone()) || blocks.Same(b, one) || blocks.Same(one, b) {
		t.Error("Same")
	}
}
