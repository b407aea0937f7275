package place_test

import (
	"fmt"
	"math"
	"math/rand/v2"
	"slices"
	"testing"

	"berthing/api"
	"berthing/blocks"
	"berthing/place"
)

const (
	mib        = 1 << 20
	gib        = 1 << 30
	hugePage   = 1 << 21
	mostBlocks = 1 << 30
	least      = math.MinInt
	most       = math.MaxInt
)

var (
	none    api.Spread
	nothing [2]int
)

// zone with blocks of memory and of huge pages, none of them reserved.
func zone(memory, huge int) api.Zone {
	return api.Zone{Blocks: [2]int{memory, huge}}
}

// machine that pins, with blocks of a MiB.
func machine(l ...api.Zone) api.Machine {
	return api.Machine{Zones: l, Size: mib, Pins: api.PinStatic, Allocatable: api.Vector{CPU: 4000, Memory: gib}}
}

// container of a Guaranteed pod: so many bytes of memory, and so many huge pages.
func container(name string, memory, huge int) api.Container {
	v := api.Vector{CPU: 1, Memory: memory, Huge: huge * hugePage}
	return api.Container{Name: name, Requests: v, Limits: v}
}

func pod(name string, l ...api.Container) api.Pod {
	return api.Pod{Name: name, Containers: l}
}

// one container named a, of so many blocks of a MiB and huge pages, in a pod.
func one(name string, memory, huge int) api.Pod {
	return pod(name, container("a", memory*mib, huge))
}

func owner(pod, container string, kind int) api.Owner {
	return api.Owner{Pod: pod, Container: container, Kind: kind}
}

// table of a machine's zones, with what owners hold.
func table(t *testing.T, m api.Machine, holds ...api.Hold) *blocks.Table {
	t.Helper()
	b, e := blocks.New(m.Zones...)
	if e != api.OK {
		t.Fatalf("New(%v): %v", m.Zones, e)
	}
	for _, h := range holds {
		if e := b.Put(h.Owner, h.Spread); e != api.OK {
			t.Fatalf("Put(%v): %v", h, e)
		}
	}
	return b
}

func hold(pod, container string, kind int, l ...int) api.Hold {
	var s api.Spread
	copy(s[:], l)
	return api.Hold{Owner: owner(pod, container, kind), Spread: s}
}

func rows(b *blocks.Table) []api.Hold {
	var l []api.Hold
	for o, s := range b.All() {
		l = append(l, api.Hold{Owner: o, Spread: s})
	}
	return l
}

// ledger: who holds what, in this file's own means.
type ledger map[api.Owner]api.Spread

func ledgerOf(b *blocks.Table) ledger {
	l := ledger{}
	for _, row := range rows(b) {
		l[row.Owner] = row.Spread
	}
	return l
}

// set what an owner holds; who holds none isn't there.
func (l ledger) set(o api.Owner, s api.Spread) {
	if s == none {
		delete(l, o)
		return
	}
	l[o] = s
}

// free of a zone and a kind.
func (l ledger) free(m api.Machine, node, kind int) int {
	n := m.Zones[node].Blocks[kind] - m.Zones[node].Reserved[kind]
	for o, s := range l {
		if o.Kind == kind {
			n -= s[node]
		}
	}
	return n
}

func total(s api.Spread) int {
	n := 0
	for node := range s {
		n += s[node]
	}
	return n
}

// needed of each kind, by the chapter's words: as many blocks as are no less than the bytes.
func needed(m api.Machine, c api.Container) [2]int {
	var n [2]int
	n[0] = c.Requests.Memory / m.Size
	if n[0]*m.Size < c.Requests.Memory {
		n[0]++
	}
	n[1] = c.Requests.Huge / hugePage
	return n
}

// pinned by the chapter's words: a pod whose containers are right.
func pinned(m api.Machine, p api.Pod) bool {
	for _, c := range p.Containers {
		r, l := c.Requests, c.Limits
		if r.CPU != l.CPU || l.CPU == 0 || r.Memory != l.Memory || l.Memory == 0 {
			return false
		}
	}
	return m.Pins == 1 && len(p.Containers) > 0
}

// leastMask: of all that have the nodes held and on which what is needed is free, the one of the fewest nodes, and of these the least number.
func leastMask(free [2]api.Spread, nodes int, held [8]bool, need [2]int) ([8]bool, bool) {
	var found [8]bool
	fewest := 9
	for number := range 1 << nodes {
		var in [8]bool
		var sums [2]int
		count, right, rest := 0, true, number
		for node := range 8 {
			in[node] = rest%2 == 1
			rest /= 2
			right = right && (in[node] || !held[node])
			if in[node] {
				count++
				sums[0] += free[0][node]
				sums[1] += free[1][node]
			}
		}
		if right && sums[0] >= need[0] && sums[1] >= need[1] && count < fewest {
			found, fewest = in, count
		}
	}
	return found, fewest < 9
}

// placed: the chapter's words, said again on a ledger, block by block. Of a right machine and a right pod.
func placed(before ledger, m api.Machine, p api.Pod) (ledger, bool) {
	l := ledger{}
	for o, s := range before {
		lost := true
		for _, c := range p.Containers {
			lost = lost && c.Name != o.Container
		}
		if o.Pod != p.Name || pinned(m, p) && !lost {
			l[o] = s
		}
	}
	if !pinned(m, p) {
		return l, true
	}
	for _, c := range p.Containers {
		for kind, need := range needed(m, c) {
			o := owner(p.Name, c.Name, kind)
			s := l[o]
			for total(s) > need {
				highest := 7
				for s[highest] == 0 {
					highest--
				}
				s[highest]--
			}
			l.set(o, s)
		}
	}
	for _, c := range p.Containers {
		if !l.more(m, p.Name, c) {
			return nil, false
		}
	}
	return l, true
}

// more of what a container needs and hasn't; false, if that isn't free.
func (l ledger) more(m api.Machine, pod string, c api.Container) bool {
	var free [2]api.Spread
	var more [2]int
	var held [8]bool
	for kind, need := range needed(m, c) {
		s := l[owner(pod, c.Name, kind)]
		more[kind] = need - total(s)
		for node := range m.Zones {
			free[kind][node] = l.free(m, node, kind)
			held[node] = held[node] || s[node] > 0
		}
	}
	if more == nothing {
		return true
	}
	in, ok := leastMask(free, len(m.Zones), held, more)
	if !ok {
		return false
	}
	for kind, n := range more {
		o := owner(pod, c.Name, kind)
		s := l[o]
		for node := range 8 {
			for in[node] && free[kind][node] > 0 && n > 0 {
				s[node]++
				free[kind][node]--
				n--
			}
		}
		l.set(o, s)
	}
	return true
}

// same: is just this held in a table?
func same(b *blocks.Table, l ledger) bool {
	got := ledgerOf(b)
	for o, s := range l {
		if got[o] != s {
			return false
		}
	}
	return len(got) == len(l)
}

// check places a pod, holds that against the chapter's words, and answers the table of it, nil if it can't be placed.
func check(t *testing.T, b *blocks.Table, m api.Machine, p api.Pod) *blocks.Table {
	t.Helper()
	before := ledgerOf(b)
	zones, containers := slices.Clone(m.Zones), slices.Clone(p.Containers)
	want, can := placed(before, m, p)
	u, ok := place.Pod(b, m, p)
	if ok != can || (u != nil) != can {
		t.Fatalf("Pod(%v, %v, %v): %v, want %v", rows(b), m, p, ok, can)
	}
	if !same(b, before) || !slices.Equal(m.Zones, zones) || !slices.Equal(p.Containers, containers) {
		t.Fatalf("Pod(%v, %v, %v) changed what it was given", rows(b), m, p)
	}
	if !ok {
		return nil
	}
	if u == b || !same(u, want) || !hasZones(u, m) {
		t.Fatalf("Pod(%v, %v, %v): %v, want %v", rows(b), m, p, rows(u), want)
	}
	checkHeld(t, before, u, m, p)
	return u
}

func hasZones(b *blocks.Table, m api.Machine) bool {
	for i, z := range m.Zones {
		if has, ok := b.Zone(i); !ok || has != z {
			return false
		}
	}
	return b.Zones() == len(m.Zones)
}

// checkHeld: P10.3, beside what the words of placing tell.
func checkHeld(t *testing.T, before ledger, u *blocks.Table, m api.Machine, p api.Pod) {
	t.Helper()
	after := ledgerOf(u)
	for o, s := range before {
		if o.Pod != p.Name && after[o] != s {
			t.Fatalf("%v held %v, and holds %v", o, s, after[o])
		}
	}
	count := 0
	for _, c := range p.Containers {
		for kind, need := range needed(m, c) {
			o := owner(p.Name, c.Name, kind)
			if !pinned(m, p) {
				need = 0
			}
			if total(after[o]) != need {
				t.Fatalf("%v holds %v, and needs %d", o, after[o], need)
			}
			for node, n := range after[o] {
				if n > before[o][node] && need <= total(before[o]) {
					t.Fatalf("%v held %v, and holds %v", o, before[o], after[o])
				}
			}
			if after[o] != none {
				count++
			}
		}
	}
	for o := range after {
		if o.Pod == p.Name {
			count--
		}
	}
	if count != 0 {
		t.Fatalf("%v holds what none of its containers does: %v", p, rows(u))
	}
}

func TestP10_1RightSize(t *testing.T) {
	for bit := range 63 {
		for _, add := range []int{-1, 0, 1, 1 << bit / 2} {
			m := machine(zone(1, 1))
			m.Size = 1<<bit + add
			right := false
			for n := 4096; n <= 1099511627776; n *= 2 {
				right = right || m.Size == n
			}
			if place.Right(m) != right {
				t.Errorf("Size %d: %v", m.Size, !right)
			}
			m.Size = -m.Size
			if place.Right(m) {
				t.Errorf("Size %d: right", m.Size)
			}
		}
	}
	for _, n := range []int{0, least, least + 1, most, 1<<12 | least, 1<<32 | 1<<12, 1<<52 | 1<<12, 3 << 12, 1<<40 | 1<<39} {
		m := machine(zone(1, 1))
		m.Size = n
		if place.Right(m) {
			t.Errorf("Size %d: right", n)
		}
	}
}

func TestP10_1RightPins(t *testing.T) {
	for _, n := range []int{0, 1, 2, 3, -1, -2, 256, 257, 1 << 32, 1<<32 + 1, least, least + 1, most} {
		m := machine(zone(1, 1))
		m.Pins = n
		if place.Right(m) != (n == 0 || n == 1) {
			t.Errorf("Pins %d: %v", n, place.Right(m))
		}
	}
}

func TestP10_1RightAllocatable(t *testing.T) {
	for _, x := range []struct {
		v     api.Vector
		right bool
	}{
		{api.Vector{}, true},
		{api.Vector{CPU: 1 << 40, Memory: 1 << 50, Huge: 1 << 50}, true},
		{api.Vector{CPU: 1, Memory: 1, Huge: hugePage}, true},
		{api.Vector{CPU: 1<<40 + 1}, false},
		{api.Vector{CPU: -1}, false},
		{api.Vector{CPU: least}, false},
		{api.Vector{CPU: most}, false},
		{api.Vector{Memory: 1<<50 + 1}, false},
		{api.Vector{Memory: -1}, false},
		{api.Vector{Memory: least}, false},
		{api.Vector{Memory: most}, false},
		{api.Vector{Huge: 1<<50 + hugePage}, false},
		{api.Vector{Huge: -hugePage}, false},
		{api.Vector{Huge: hugePage - 1}, false},
		{api.Vector{Huge: hugePage + 1}, false},
		{api.Vector{Huge: least}, false},
		{api.Vector{Huge: most}, false},
	} {
		m := machine(zone(1, 1))
		m.Allocatable = x.v
		if place.Right(m) != x.right {
			t.Errorf("Allocatable %v: %v", x.v, !x.right)
		}
	}
}

func TestP10_1RightZones(t *testing.T) {
	for n := range 20 {
		l := make([]api.Zone, n, 20)
		m := machine(l...)
		if place.Right(m) != (n >= 1 && n <= 8) {
			t.Errorf("%d zones: %v", n, place.Right(m))
		}
	}
	if m := machine(); place.Right(m) || m.Zones != nil {
		t.Errorf("no zones: right")
	}
	for kind := range 2 {
		for _, x := range []struct {
			blocks, reserved int
			right            bool
		}{
			{0, 0, true}, {1, 0, true}, {1, 1, true}, {mostBlocks, 0, true}, {mostBlocks, mostBlocks, true},
			{0, 1, false}, {1, 2, false}, {1, -1, false}, {-1, 0, false}, {-1, -1, false}, {mostBlocks + 1, 0, false},
			{mostBlocks, mostBlocks + 1, false}, {1 << 32, 0, false}, {1, 1 << 32, false}, {1, least, false}, {most, 0, false}, {least, 0, false},
		} {
			for at := range 8 {
				l := make([]api.Zone, 8)
				l[at].Blocks[kind], l[at].Reserved[kind] = x.blocks, x.reserved
				if place.Right(machine(l...)) != x.right {
					t.Errorf("zone %d, kind %d, of %d blocks, %d reserved: %v", at, kind, x.blocks, x.reserved, !x.right)
				}
			}
		}
	}
}

// wrongMachines: of each part a wrong one.
func wrongMachines() []api.Machine {
	var l []api.Machine
	for _, change := range []func(m *api.Machine){
		func(m *api.Machine) { m.Size = 0 },
		func(m *api.Machine) { m.Size = 1 << 11 },
		func(m *api.Machine) { m.Size = 1 << 41 },
		func(m *api.Machine) { m.Size = 3 << 20 },
		func(m *api.Machine) { m.Size = -mib },
		func(m *api.Machine) { m.Pins = 2 },
		func(m *api.Machine) { m.Pins = -1 },
		func(m *api.Machine) { m.Allocatable.CPU = -1 },
		func(m *api.Machine) { m.Allocatable.Memory = 1<<50 + 1 },
		func(m *api.Machine) { m.Allocatable.Huge = 1 },
		func(m *api.Machine) { m.Zones = nil },
		func(m *api.Machine) { m.Zones = []api.Zone{} },
		func(m *api.Machine) { m.Zones = make([]api.Zone, 9) },
		func(m *api.Machine) { m.Zones = []api.Zone{zone(-1, 0)} },
	} {
		m := machine(zone(4, 4))
		change(&m)
		l = append(l, m)
	}
	return l
}

// wrongPods: of each part a wrong one.
func wrongPods() []api.Pod {
	var l []api.Pod
	for _, change := range []func(p *api.Pod){
		func(p *api.Pod) { p.Name = "" },
		func(p *api.Pod) { p.Name = "P" },
		func(p *api.Pod) { p.Name = "p-" },
		func(p *api.Pod) { p.Name = "abcdefghijklmnopq" },
		func(p *api.Pod) { p.Priority = 1001 },
		func(p *api.Pod) { p.Priority = -1001 },
		func(p *api.Pod) { p.Policy = 3 },
		func(p *api.Pod) { p.Policy = -1 },
		func(p *api.Pod) { p.Containers = nil },
		func(p *api.Pod) { p.Containers = append(p.Containers, p.Containers[0]) },
		func(p *api.Pod) { p.Containers[0].Name = "" },
		func(p *api.Pod) { p.Containers[0].Requests.Memory = -1 },
		func(p *api.Pod) { p.Containers[0].Requests.Memory++ },
		func(p *api.Pod) { p.Containers[0].Limits.Huge = hugePage },
		func(p *api.Pod) { p.Containers = manyContainers(7) },
		func(p *api.Pod) {
			p.Containers = []api.Container{container("a", 1<<50, 0), container("b", 1, 0)}
		},
	} {
		p := one("p", 1, 0)
		change(&p)
		l = append(l, p)
	}
	return l
}

func manyContainers(n int) []api.Container {
	var l []api.Container
	for i := range n {
		l = append(l, container(string(rune('a'+i)), mib, 0))
	}
	return l
}

func TestP10_1Pinned(t *testing.T) {
	full := api.Vector{CPU: 1, Memory: 1}
	guaranteed := api.Container{Name: "a", Requests: full, Limits: full}
	for _, x := range []struct {
		name       string
		containers []api.Container
		guaranteed bool
	}{
		{"one", []api.Container{guaranteed}, true},
		{"two", []api.Container{guaranteed, container("b", gib, 3)}, true},
		{"none", nil, false},
		{"best effort", []api.Container{{Name: "a"}}, false},
		{"one is best effort", []api.Container{guaranteed, {Name: "b"}}, false},
		{"no limit of CPU", []api.Container{{Name: "a", Requests: full, Limits: api.Vector{Memory: 1}}}, false},
		{"no limit of memory", []api.Container{{Name: "a", Requests: full, Limits: api.Vector{CPU: 1}}}, false},
		{"no memory", []api.Container{{Name: "a", Requests: api.Vector{CPU: 1}, Limits: api.Vector{CPU: 1}}}, false},
		{"more CPU", []api.Container{{Name: "a", Requests: full, Limits: api.Vector{CPU: 2, Memory: 1}}}, false},
		{"more memory", []api.Container{guaranteed, {Name: "b", Requests: full, Limits: api.Vector{CPU: 1, Memory: 2}}}, false},
	} {
		for _, pins := range []int{0, 1, 2, -1, 1<<32 + 1, 257, least + 1, most} {
			m := machine(zone(1, 1))
			m.Pins = pins
			if got := place.Pinned(m, pod("p", x.containers...)); got != (x.guaranteed && pins == 1) {
				t.Errorf("%s, Pins %d: %v", x.name, pins, got)
			}
		}
	}
	// Nothing else of a machine or a pod is asked for.
	if !place.Pinned(api.Machine{Pins: api.PinStatic}, pod("", guaranteed, guaranteed)) {
		t.Errorf("a machine or a pod that isn't right: not pinned")
	}
}

func TestP10_1Needs(t *testing.T) {
	for _, size := range []int{1 << 12, 1 << 13, mib, gib, 1 << 39, 1 << 40} {
		m := machine(zone(1, 1))
		m.Size = size
		for _, times := range []int{0, 1, 2, 3, 1000, 1<<50/size - 1, 1 << 50 / size} {
			for _, add := range []int{-size + 1, -1, 0, 1, size - 1} {
				memory := times*size + add
				if memory < 0 || memory > 1<<50 {
					continue
				}
				for _, huge := range []int{0, 1, 2, 1<<29 - 1, 1 << 29} {
					c := container("a", memory, huge)
					want := [2]int{times, huge}
					if add > 0 {
						want[0]++
					}
					if got := place.Needs(m, c); got != want || got != needed(m, c) {
						t.Errorf("Needs(Size %d, Memory %d, Huge %d): %v, want %v", size, memory, huge, got, want)
					}
				}
			}
		}
	}
}

func TestP10_1NeedsOfAnyClass(t *testing.T) {
	for _, pins := range []int{0, 1} {
		m := machine(zone(1, 1))
		m.Pins = pins
		c := api.Container{Name: "a", Requests: api.Vector{Memory: 2*mib + 1, Huge: 3 * hugePage}, Limits: api.Vector{CPU: 7, Memory: gib, Huge: 3 * hugePage}}
		if got := place.Needs(m, c); got != [2]int{3, 3} {
			t.Errorf("Pins %d: %v", pins, got)
		}
		c.Requests.Memory = 0
		if got := place.Needs(m, c); got != [2]int{0, 3} {
			t.Errorf("Pins %d, no memory: %v", pins, got)
		}
	}
}

func TestP10_1NeedsOfWrong(t *testing.T) {
	c := container("a", gib, 1)
	for _, m := range wrongMachines() {
		if got := place.Needs(m, c); got != nothing {
			t.Errorf("Needs(%v): %v", m, got)
		}
	}
	for i, change := range []func(c *api.Container){
		func(c *api.Container) { c.Name = "" },
		func(c *api.Container) { c.Name = "-a" },
		func(c *api.Container) { c.Requests.CPU = -1 },
		func(c *api.Container) { c.Requests.Memory = -1 },
		func(c *api.Container) { c.Requests.Memory, c.Limits.Memory = 1<<50+1, 1<<50+1 },
		func(c *api.Container) { c.Requests.Memory, c.Limits.Memory = most, most },
		func(c *api.Container) { c.Requests.Memory, c.Limits.Memory = least, 0 },
		func(c *api.Container) { c.Requests.Huge, c.Limits.Huge = 1<<50+hugePage, 1<<50+hugePage },
		func(c *api.Container) { c.Requests.Huge, c.Limits.Huge = hugePage+1, hugePage+1 },
		func(c *api.Container) { c.Requests.Huge, c.Limits.Huge = -hugePage, -hugePage },
		func(c *api.Container) { c.Limits.Huge = 0 },
		func(c *api.Container) { c.Limits.Memory = 1 },
	} {
		c := container("a", gib, 1)
		change(&c)
		if got := place.Needs(machine(zone(1, 1)), c); got != nothing {
			t.Errorf("%d: Needs(%v): %v", i, c, got)
		}
	}
}

func TestP10_1Nodes(t *testing.T) {
	m := machine(make([]api.Zone, 8)...)
	for i := range m.Zones {
		m.Zones[i] = zone(10, 10)
	}
	b := table(t, m,
		hold("memory", "a", 0, 0, 1),
		hold("huge", "a", 1, 0, 0, 0, 0, 0, 0, 0, 1),
		hold("both", "a", 0, 1, 0, 5),
		hold("both", "a", 1, 1, 0, 0, 2),
		hold("many", "a", 0, 0, 3),
		hold("many", "b", 1, 0, 0, 0, 0, 4),
		hold("many", "c", 0, 0, 1, 0, 0, 0, 0, 1),
		hold("all", "a", 0, 1, 1, 1, 1),
		hold("all", "b", 1, 0, 0, 0, 0, 1, 1, 1, 1))
	for _, x := range []struct {
		pod  string
		mask int
	}{
		{"memory", 2}, {"huge", 128}, {"both", 13}, {"many", 2 + 16 + 64}, {"all", 255},
		{"none", 0}, {"", 0}, {"a", 0}, {"man", 0}, {"manya", 0}, {"Many", 0},
	} {
		if got := place.Nodes(b, x.pod); got != x.mask {
			t.Errorf("Nodes(%q): %d, want %d", x.pod, got, x.mask)
		}
	}
	b.Release("both")
	if got := place.Nodes(b, "both"); got != 0 {
		t.Errorf("released: %d", got)
	}
	if got := place.Nodes(nil, "p"); got != 0 {
		t.Errorf("of a nil table: %d", got)
	}
	if got := place.Nodes(table(t, m), "p"); got != 0 {
		t.Errorf("of an empty table: %d", got)
	}
}

// Each of both kinds over all masks of two containers.
func TestP10_1NodesOfEachMask(t *testing.T) {
	m := machine(make([]api.Zone, 8)...)
	for i := range m.Zones {
		m.Zones[i] = zone(3, 3)
	}
	for a := range 256 {
		for _, c := range []int{0, 1, 128, 170, 255 - a, 255} {
			var s, u api.Spread
			want, bit := 0, 1
			for node := range 8 {
				s[node], u[node] = a/bit%2, c/bit%2*2
				if s[node]+u[node] > 0 {
					want += bit
				}
				bit *= 2
			}
			b := table(t, m, hold("p", "a", 0, s[:]...), hold("p", "b", 1, u[:]...), hold("q", "a", 0, 2, 2, 2, 2, 2, 2, 2, 2))
			if got := place.Nodes(b, "p"); got != want {
				t.Fatalf("Nodes of %v, %v: %d, want %d", s, u, got, want)
			}
		}
	}
}

func TestP10_2Example(t *testing.T) {
	m := machine(zone(4, 0), zone(4, 0))
	m.Size = gib
	b := table(t, m)
	u := check(t, b, m, pod("p", container("a", 6*gib, 0)))
	if got := u.Held(owner("p", "a", 0)); got != (api.Spread{4, 2}) {
		t.Errorf("%v", got)
	}
	if place.Nodes(u, "p") != 3 || place.Nodes(b, "p") != 0 {
		t.Errorf("nodes %d, %d", place.Nodes(u, "p"), place.Nodes(b, "p"))
	}
}

func refused(t *testing.T, b *blocks.Table, m api.Machine, p api.Pod) {
	t.Helper()
	before := ledgerOf(b)
	if u, ok := place.Pod(b, m, p); ok || u != nil {
		t.Errorf("Pod(%v, %v): %v, %v", m, p, u, ok)
	}
	if !same(b, before) {
		t.Errorf("Pod(%v, %v) changed the table to %v", m, p, rows(b))
	}
}

func TestP10_2WrongArguments(t *testing.T) {
	pins := machine(zone(4, 4))
	pinless := pins
	pinless.Pins = api.PinNone
	best := pod("p", api.Container{Name: "a"})
	for _, m := range []api.Machine{pins, pinless} {
		held := []api.Hold{hold("p", "a", 0, 1), hold("q", "a", 0, 1), hold("p", "z", 1, 2)}
		for _, p := range []api.Pod{one("p", 1, 0), best} {
			refused(t, nil, m, p)
			refused(t, nil, api.Machine{}, p)
			for _, wrong := range wrongMachines() {
				refused(t, table(t, m, held...), wrong, p)
				refused(t, nil, wrong, p)
				if place.Alone(wrong, p) {
					t.Errorf("Alone(%v, %v)", wrong, p)
				}
			}
		}
		for _, wrong := range wrongPods() {
			refused(t, table(t, m, held...), m, wrong)
			if place.Alone(m, wrong) {
				t.Errorf("Alone(%v, %v)", m, wrong)
			}
		}
	}
}

func TestP10_2OtherZones(t *testing.T) {
	a, c := zone(4, 2), zone(5, 2)
	reserved := a
	reserved.Reserved = [2]int{1, 0}
	reservedHuge := a
	reservedHuge.Reserved = [2]int{0, 1}
	lists := [][]api.Zone{{a}, {c}, {a, a}, {a, c}, {c, a}, {c, c}, {a, c, a}, {reserved}, {reservedHuge}, {a, reserved}, {zone(4, 3)}, {zone(3, 2)}, {a, zone(0, 0)}}
	for i, its := range lists {
		for j, theirs := range lists {
			for _, pins := range []int{0, 1} {
				m := machine(theirs...)
				m.Pins = pins
				b := table(t, machine(its...), hold("p", "z", 0, 1))
				if i == j {
					check(t, b, m, one("p", 2, 1))
					continue
				}
				refused(t, b, m, one("p", 1, 0))
				refused(t, b, m, pod("p", api.Container{Name: "a"}))
			}
		}
	}
}

// The zones alone of a machine are held against the table's: other machines of the same ones will do.
func TestP10_2SameZones(t *testing.T) {
	m := machine(zone(4, 2), zone(4, 2))
	b := check(t, table(t, m), m, one("p", 3, 1))
	m.Size = 1 << 12
	m.Allocatable = api.Vector{}
	u := check(t, b, m, pod("p", container("a", 3<<12+1, 1)))
	if got := u.Held(owner("p", "a", 0)); got != (api.Spread{4}) {
		t.Errorf("%v", got)
	}
}

func TestP10_2Apart(t *testing.T) {
	m := machine(zone(4, 4), zone(4, 4))
	b := table(t, m, hold("q", "a", 0, 1))
	u := check(t, b, m, one("p", 2, 1))
	// Placed once more nothing is changed, and yet it is another table.
	v := check(t, u, m, one("p", 2, 1))
	if !blocks.Same(u, v) {
		t.Errorf("placed twice: %v, %v", rows(u), rows(v))
	}
	v.Release("p")
	u.Release("q")
	if !same(b, ledger{owner("q", "a", 0): {1}}) || !same(v, ledger{owner("q", "a", 0): {1}}) || !same(u, ledger{owner("p", "a", 0): {2}, owner("p", "a", 1): {1}}) {
		t.Errorf("%v, %v, %v", rows(b), rows(u), rows(v))
	}
	// The zones that it was given don't count any more.
	m.Zones[0].Blocks[0] = 0
	if u.Room(0, 0) != 4 || u.Free(0, 0) != 2 {
		t.Errorf("room %d, free %d", u.Room(0, 0), u.Free(0, 0))
	}
	// The table of a pod that isn't pinned is another one, too.
	free := pod("r", api.Container{Name: "a"})
	w, ok := place.Pod(u, machine(zone(4, 4), zone(4, 4)), free)
	if !ok || w == u || !blocks.Same(w, u) {
		t.Errorf("not pinned: %v, %v", ok, w == u)
	}
}

// row of a table of cases: what is held, what is asked for, and what then is held, nil if it can't be.
type row struct {
	name string
	held []api.Hold
	pod  api.Pod
	want []api.Hold
}

func checkRows(t *testing.T, m api.Machine, l []row) {
	t.Helper()
	for _, x := range l {
		t.Run(x.name, func(t *testing.T) {
			u := check(t, table(t, m, x.held...), m, x.pod)
			if u == nil && x.want == nil {
				return
			}
			if u == nil || !slices.Equal(rows(u), rows(table(t, m, x.want...))) {
				t.Errorf("%v, want %v", rows(u), x.want)
			}
		})
	}
}

// Three zones: of 4, 2, 9 memory blocks and 0, 3, 1 huge pages.
func three() api.Machine {
	return machine(zone(4, 0), zone(2, 3), zone(9, 1))
}

func TestP10_2New(t *testing.T) {
	checkRows(t, three(), []row{
		{"on the least node that is enough", nil, one("p", 2, 0), []api.Hold{hold("p", "a", 0, 2)}},
		{"on the one node that is enough", nil, one("p", 6, 0), []api.Hold{hold("p", "a", 0, 0, 0, 6)}},
		{"on one that has both kinds", nil, one("p", 2, 1), []api.Hold{hold("p", "a", 0, 0, 2), hold("p", "a", 1, 0, 1)}},
		{"on two, each filled ahead of the next", nil, one("p", 10, 0), []api.Hold{hold("p", "a", 0, 4, 0, 6)}},
		{"on two for both kinds", nil, one("p", 6, 4), []api.Hold{hold("p", "a", 0, 0, 2, 4), hold("p", "a", 1, 0, 3, 1)}},
		{"just all", nil, one("p", 15, 4), []api.Hold{hold("p", "a", 0, 4, 2, 9), hold("p", "a", 1, 0, 3, 1)}},
		{"a single block missing", nil, one("p", 16, 4), nil},
		{"a single huge page missing", nil, one("p", 15, 5), nil},
		{"a byte missing", nil, pod("p", container("a", 15*mib+1, 4)), nil},
		{"a byte needs a block", nil, pod("p", container("a", 1, 0)), []api.Hold{hold("p", "a", 0, 1)}},
		{"a block and a byte need two", nil, pod("p", container("a", mib+1, 0)), []api.Hold{hold("p", "a", 0, 2)}},
		{"one behind the other, the first one ahead", nil, pod("p", container("b", 3*mib, 0), container("a", 2*mib, 0)), []api.Hold{hold("p", "a", 0, 0, 2), hold("p", "b", 0, 3)}},
		{"the other way round", nil, pod("p", container("a", 2*mib, 0), container("b", 3*mib, 0)), []api.Hold{hold("p", "a", 0, 2), hold("p", "b", 0, 0, 0, 3)}},
		{"the last of six is missing", nil, pod("p", container("a", 4*mib, 0), container("b", 2*mib, 0), container("c", 7*mib, 0), container("d", mib, 0), container("e", mib, 0), container("f", mib, 0)), nil},
		{"beside others", []api.Hold{hold("q", "a", 0, 4), hold("q", "a", 1, 0, 3)}, one("p", 2, 0), []api.Hold{hold("p", "a", 0, 0, 2), hold("q", "a", 0, 4), hold("q", "a", 1, 0, 3)}},
		{"others hold all", []api.Hold{hold("q", "a", 0, 4, 2, 9)}, one("p", 1, 0), nil},
		{"others hold all of the other kind", []api.Hold{hold("q", "a", 1, 0, 3, 1)}, one("p", 1, 0), []api.Hold{hold("p", "a", 0, 1), hold("q", "a", 1, 0, 3, 1)}},
		{"others hold all but one", []api.Hold{hold("q", "a", 0, 4, 1, 9)}, one("p", 1, 0), []api.Hold{hold("p", "a", 0, 0, 1), hold("q", "a", 0, 4, 1, 9)}},
	})
}

func TestP10_2Again(t *testing.T) {
	memory, huge := hold("p", "a", 0, 2, 0, 3), hold("p", "a", 1, 0, 2)
	other := hold("q", "a", 0, 1, 1, 1)
	held := []api.Hold{memory, huge, other}
	checkRows(t, three(), []row{
		{"the same", held, one("p", 5, 2), held},
		{"less: from the highest node down", held, one("p", 4, 2), []api.Hold{hold("p", "a", 0, 2, 0, 2), huge, other}},
		{"less: none of the highest node", held, one("p", 2, 2), []api.Hold{hold("p", "a", 0, 2), huge, other}},
		{"less: the next one down", held, one("p", 1, 2), []api.Hold{hold("p", "a", 0, 1), huge, other}},
		{"none of a kind", held, one("p", 5, 0), []api.Hold{memory, other}},
		{"more: with the nodes held", held, one("p", 6, 2), []api.Hold{hold("p", "a", 0, 3, 0, 3), huge, other}},
		{"more: over all of them, the other kind's too", held, one("p", 7, 2), []api.Hold{hold("p", "a", 0, 3, 1, 3), huge, other}},
		{"more: the highest node last", held, one("p", 8, 2), []api.Hold{hold("p", "a", 0, 3, 1, 4), huge, other}},
		{"more: just all", held, one("p", 12, 4), []api.Hold{hold("p", "a", 0, 3, 1, 8), hold("p", "a", 1, 0, 3, 1), other}},
		{"more: a block missing", held, one("p", 13, 4), nil},
		{"more: a huge page missing", held, one("p", 12, 5), nil},
		{"less of one kind, more of the other", held, one("p", 1, 4), []api.Hold{hold("p", "a", 0, 1), hold("p", "a", 1, 0, 3, 1), other}},
		{"more of one kind, less of the other", held, one("p", 6, 1), []api.Hold{hold("p", "a", 0, 3, 0, 3), hold("p", "a", 1, 0, 1), other}},
	})
}

// Nodes given up aren't held any more: what one gets then needn't lie there.
func TestP10_2GivenUpNodes(t *testing.T) {
	m := machine(zone(9, 2), zone(9, 2), zone(9, 9))
	checkRows(t, m, []row{
		{"a node that is still held", []api.Hold{hold("p", "a", 0, 0, 1), hold("p", "a", 1, 1, 1)}, one("p", 3, 1), []api.Hold{hold("p", "a", 0, 2, 1), hold("p", "a", 1, 1)}},
		{"a node that isn't any more", []api.Hold{hold("p", "a", 0, 1, 1), hold("p", "a", 1, 0, 0, 1)}, one("p", 1, 3), []api.Hold{hold("p", "a", 0, 1), hold("p", "a", 1, 2, 0, 1)}},
		{"none any more of the other kind", []api.Hold{hold("p", "a", 0, 1), hold("p", "a", 1, 0, 0, 2)}, one("p", 3, 0), []api.Hold{hold("p", "a", 0, 3)}},
	})
}

func TestP10_2OneForAnother(t *testing.T) {
	m := machine(zone(4, 0), zone(4, 0))
	a, b := hold("p", "a", 0, 4), hold("p", "b", 0, 0, 4)
	checkRows(t, m, []row{
		{"what a later one gives up an earlier one gets", []api.Hold{a, b}, pod("p", container("a", 6*mib, 0), container("b", 2*mib, 0)), []api.Hold{hold("p", "a", 0, 4, 2), hold("p", "b", 0, 0, 2)}},
		{"what an earlier one gives up a later one gets", []api.Hold{a, b}, pod("p", container("a", 2*mib, 0), container("b", 6*mib, 0)), []api.Hold{hold("p", "a", 0, 2), hold("p", "b", 0, 2, 4)}},
		{"what a lost one held another one gets", []api.Hold{a, b}, one("p", 8, 0), []api.Hold{hold("p", "a", 0, 4, 4)}},
		{"a new one gets what a lost one held", []api.Hold{a, b}, pod("p", container("a", 4*mib, 0), container("c", 4*mib, 0)), []api.Hold{a, hold("p", "c", 0, 0, 4)}},
		{"a new one, ahead of those there", []api.Hold{hold("p", "a", 0, 2)}, pod("p", container("c", 3*mib, 0), container("a", 4*mib, 0)), []api.Hold{hold("p", "a", 0, 4), hold("p", "c", 0, 0, 3)}},
		{"a new one, and no room for it", []api.Hold{a, b}, pod("p", container("a", 4*mib, 0), container("b", 4*mib, 0), container("c", 1, 0)), nil},
		{"another order", []api.Hold{a, b}, pod("p", container("b", 4*mib, 0), container("a", 4*mib, 0)), []api.Hold{a, b}},
		{"a container of the same name in another pod", []api.Hold{hold("q", "a", 0, 3), hold("q", "z", 0, 1)}, one("p", 4, 0), []api.Hold{hold("p", "a", 0, 0, 4), hold("q", "a", 0, 3), hold("q", "z", 0, 1)}},
		{"lost, in another pod too", []api.Hold{hold("p", "z", 0, 1), hold("pp", "z", 0, 1), hold("o", "z", 0, 1)}, one("p", 1, 0), []api.Hold{hold("o", "z", 0, 1), hold("p", "a", 0, 1), hold("pp", "z", 0, 1)}},
	})
}

func TestP10_2NotPinned(t *testing.T) {
	m := machine(zone(4, 2), zone(4, 2))
	burstable := one("p", 2, 1)
	burstable.Containers[0].Limits.CPU = 2
	best := pod("p", api.Container{Name: "a"}, api.Container{Name: "b"})
	big := pod("p", api.Container{Name: "a", Requests: api.Vector{Memory: 1 << 50}})
	pinless := m
	pinless.Pins = api.PinNone
	other := hold("q", "a", 0, 3, 1)
	held := []api.Hold{hold("p", "a", 0, 1, 1), hold("p", "a", 1, 0, 1), hold("p", "z", 0, 0, 2), other}
	for _, p := range []api.Pod{burstable, best, big} {
		checkRows(t, m, []row{{"of another class", held, p, []api.Hold{other}}})
	}
	for _, p := range []api.Pod{burstable, best, big, one("p", 2, 1), one("p", 100, 0)} {
		checkRows(t, pinless, []row{{"of a machine that doesn't pin", held, p, []api.Hold{other}}})
	}
	checkRows(t, m, []row{{"pinned", held, one("p", 2, 1), []api.Hold{hold("p", "a", 0, 1, 1), hold("p", "a", 1, 0, 1), other}}})
}

// Reserved blocks are nobody's.
func TestP10_2Reserved(t *testing.T) {
	m := machine(api.Zone{Blocks: [2]int{10, 4}, Reserved: [2]int{7, 4}}, api.Zone{Blocks: [2]int{5, 3}, Reserved: [2]int{1, 1}})
	checkRows(t, m, []row{
		{"memory", nil, one("p", 3, 0), []api.Hold{hold("p", "a", 0, 3)}},
		{"on the other node", nil, one("p", 4, 0), []api.Hold{hold("p", "a", 0, 0, 4)}},
		{"huge pages", nil, one("p", 1, 2), []api.Hold{hold("p", "a", 0, 0, 1), hold("p", "a", 1, 0, 2)}},
		{"just all", nil, one("p", 7, 2), []api.Hold{hold("p", "a", 0, 3, 4), hold("p", "a", 1, 0, 2)}},
		{"a block missing", nil, one("p", 8, 0), nil},
		{"a huge page missing", nil, one("p", 1, 3), nil},
	})
}

func TestP10_2Alone(t *testing.T) {
	m := machine(api.Zone{Blocks: [2]int{10, 2}, Reserved: [2]int{2, 0}}, zone(10, 2))
	pinless := m
	pinless.Pins = api.PinNone
	for _, x := range []struct {
		pod  api.Pod
		fits bool
	}{
		{one("p", 18, 4), true},
		{one("p", 19, 4), false},
		{one("p", 18, 5), false},
		{pod("p", container("a", 18*mib+1, 0)), false},
		{pod("p", container("a", 9*mib, 2), container("b", 9*mib, 2)), true},
		{pod("p", container("a", 9*mib, 2), container("b", 9*mib+1, 2)), false},
		{pod("p", container("a", 9*mib, 3), container("b", 9*mib, 2)), false},
		{pod("p", container("a", 17*mib+1, 0), container("b", 1, 0)), false},
	} {
		if got := place.Alone(m, x.pod); got != x.fits {
			t.Errorf("Alone(%v): %v", x.pod, got)
		}
		if !place.Alone(pinless, x.pod) {
			t.Errorf("not pinned: Alone(%v): false", x.pod)
		}
		// Others that hold all hinder nobody who is alone.
		b := table(t, m, hold("q", "a", 0, 8, 10), hold("q", "a", 1, 2, 2))
		refused(t, b, m, x.pod)
		if got := place.Alone(m, x.pod); got != x.fits {
			t.Errorf("behind others: Alone(%v): %v", x.pod, got)
		}
	}
	if !place.Alone(m, pod("p", api.Container{Name: "a", Requests: api.Vector{Memory: 1 << 50}})) {
		t.Errorf("of another class: false")
	}
}

// As much as there can be: what a container needs more at once is at most MostBlocks, for which layer 9 tells a mask.
func TestP10_2MostBlocks(t *testing.T) {
	m := machine(zone(mostBlocks, mostBlocks), zone(mostBlocks, mostBlocks), zone(mostBlocks, mostBlocks))
	m.Size = 1 << 12
	bytes := mostBlocks << 12
	b := table(t, m)
	put := func(b *blocks.Table, memory, huge int, want ...int) *blocks.Table {
		t.Helper()
		u, ok := place.Pod(b, m, pod("p", container("a", memory, huge)))
		var s api.Spread
		copy(s[:], want)
		if !ok || u.Held(owner("p", "a", 0)) != s {
			t.Fatalf("%d bytes: %v", memory, ok)
		}
		return u
	}
	full := put(b, bytes, 1<<29, mostBlocks)
	put(full, bytes+1, 0, mostBlocks, 1)
	two := put(full, 2*bytes, 1<<29, mostBlocks, mostBlocks)
	put(two, bytes+1, 1<<29, mostBlocks, 1)
	put(put(b, 1, 0, 1), bytes+1, 0, mostBlocks, 1)
	refused(t, b, m, pod("p", container("a", bytes+1, 0)))
	refused(t, b, m, pod("p", container("a", 1<<50, 0)))
	refused(t, full, m, pod("p", container("a", 2*bytes+1, 0)))
	if !place.Alone(m, pod("p", container("a", bytes, 1<<29))) || place.Alone(m, pod("p", container("a", bytes+1, 0))) {
		t.Errorf("alone")
	}
	eight := machine(slices.Repeat(m.Zones[:1], 8)...)
	eight.Size = 1 << 12
	l := manyContainers(6)
	for i := range l {
		l[i] = container(l[i].Name, bytes, 0)
	}
	u, ok := place.Pod(table(t, eight), eight, pod("p", l...))
	if !ok || place.Nodes(u, "p") != 63 {
		t.Errorf("six containers: %v, %d", ok, place.Nodes(u, "p"))
	}
}

// All few blocks on two nodes, of each kind, held and asked for.
func TestP10_3FewBlocks(t *testing.T) {
	m := machine(zone(2, 1), zone(3, 2))
	for _, other := range []api.Hold{hold("q", "a", 0), hold("q", "a", 0, 1), hold("q", "b", 0, 0, 1), hold("q", "a", 1, 0, 1)} {
		for first := range 3 {
			for second := range 4 {
				for huge := range 4 {
					b, _ := blocks.New(m.Zones...)
					b.Put(other.Owner, other.Spread)
					if b.Put(owner("p", "a", 0), api.Spread{first, second}) != api.OK || b.Put(owner("p", "a", 1), api.Spread{huge % 2, huge / 2}) != api.OK {
						continue
					}
					for memory := 1; memory <= 6; memory++ {
						for pages := range 4 {
							check(t, b, m, one("p", memory, pages))
						}
					}
				}
			}
		}
	}
}

// picker of machines and pods, the same ones each time.
type picker struct{ *rand.Rand }

func (r picker) machine() api.Machine {
	m := machine()
	m.Size = 1 << (12 + r.IntN(10))
	for range 1 + r.IntN(5) {
		z := zone(r.IntN(9), r.IntN(5))
		for kind := range z.Blocks {
			z.Reserved[kind] = r.IntN(z.Blocks[kind]/3 + 1)
		}
		m.Zones = append(m.Zones, z)
	}
	if r.IntN(10) == 0 {
		m.Pins = api.PinNone
	}
	return m
}

func (r picker) pod(m api.Machine) api.Pod {
	p := pod([]string{"p", "q", "pq"}[r.IntN(3)])
	names := []string{"a", "b", "c", "z"}
	r.Shuffle(len(names), func(i, j int) { names[i], names[j] = names[j], names[i] })
	for _, name := range names[:1+r.IntN(3)] {
		p.Containers = append(p.Containers, container(name, 1+r.IntN(6*m.Size), r.IntN(4)))
	}
	if r.IntN(12) == 0 {
		p.Containers[0].Limits.CPU++
	}
	return p
}

// Many pods, one behind the other, each as it comes, and all of them as they are held.
func TestP10_3ManyPods(t *testing.T) {
	r := picker{rand.New(rand.NewPCG(10, 3))}
	could, couldNot := 0, 0
	for range 1200 {
		m := r.machine()
		b := table(t, m)
		for range 20 {
			p := r.pod(m)
			_, alone := placed(ledger{}, m, p)
			if place.Alone(m, p) != alone {
				t.Fatalf("Alone(%v, %v): %v", m, p, !alone)
			}
			u := check(t, b, m, p)
			if u == nil {
				couldNot++
				continue
			}
			could++
			checkRoom(t, u, m)
			b = u
		}
	}
	if could < 5000 || couldNot < 5000 {
		t.Errorf("%d could be placed, %d couldn't: too few of one sort", could, couldNot)
	}
}

// checkRoom: what is held of a zone is no more than its room, and who is on which nodes.
func checkRoom(t *testing.T, b *blocks.Table, m api.Machine) {
	t.Helper()
	l := ledgerOf(b)
	for node := range m.Zones {
		for kind := range 2 {
			if l.free(m, node, kind) < 0 {
				t.Fatalf("zone %d, kind %d: %v", node, kind, rows(b))
			}
		}
	}
	for _, name := range []string{"p", "q", "pq"} {
		var held [8]bool
		for o, s := range l {
			for node, n := range s {
				held[node] = held[node] || o.Pod == name && n > 0
			}
		}
		want, bit := 0, 1
		for _, has := range held {
			if has {
				want += bit
			}
			bit *= 2
		}
		if got := place.Nodes(b, name); got != want {
			t.Fatalf("Nodes(%v, %q): %d, want %d", rows(b), name, got, want)
		}
	}
}

// A pod whose needs stay, or fall, stays where it is, whatever the others do.
func TestP10_3Falls(t *testing.T) {
	m := machine(zone(5, 3), zone(5, 3), zone(5, 3))
	for _, held := range [][]int{{1, 1, 1}, {0, 2, 1}, {3, 0, 3}, {0, 0, 4}, {5, 5, 5}} {
		var s api.Spread
		copy(s[:], held)
		for memory := 1; memory <= total(s); memory++ {
			t.Run(fmt.Sprint(held, memory), func(t *testing.T) {
				b := table(t, m, hold("p", "a", 0, held...))
				for node := range m.Zones {
					// What else there is others hold.
					o := owner("q", string(rune('a'+node)), 0)
					var left api.Spread
					left[node] = b.Free(node, 0)
					b.Put(o, left)
				}
				u := check(t, b, m, one("p", memory, 0))
				if u == nil {
					t.Fatalf("none")
				}
				got := u.Held(owner("p", "a", 0))
				rest := memory
				for node, n := range s {
					if got[node] != min(n, rest) {
						t.Errorf("%v", got)
					}
					rest -= got[node]
				}
			})
		}
	}
}
