package spec_test

import (
	"math"
	"math/big"
	"slices"
	"strconv"
	"strings"
	"testing"

	"berthing/api"
	"berthing/spec"
)

const (
	mostCPU   = 1 << 40
	mostBytes = 1 << 50
	page      = 1 << 21
	least     = math.MinInt
	most      = math.MaxInt
)

var (
	none  = api.Vector{}
	noPod = api.Pod{}
)

func vec(cpu, memory, huge int) api.Vector {
	return api.Vector{CPU: cpu, Memory: memory, Huge: huge}
}

func box(name string, requests, limits api.Vector) api.Container {
	return api.Container{Name: name, Requests: requests, Limits: limits}
}

func pod(l ...api.Container) api.Pod {
	return api.Pod{Name: "p", Containers: l}
}

func to(name string, requests, limits api.Vector) api.Change {
	return api.Change{Name: name, Requests: requests, Limits: limits}
}

// same holds pods against each other, nil and empty lists alike, by this file's own means.
func same(a, b api.Pod) bool {
	if a.Name != b.Name || a.Priority != b.Priority || a.Policy != b.Policy || len(a.Containers) != len(b.Containers) {
		return false
	}
	for i := range a.Containers {
		if a.Containers[i] != b.Containers[i] {
			return false
		}
	}
	return true
}

// copied: a pod of its own memory.
func copied(p api.Pod) api.Pod {
	p.Containers = append([]api.Container{}, p.Containers...)
	return p
}

// The document's words, said again: rightVector, rightContainer, rightPod and class.

func parts(v api.Vector) [3]int {
	return [3]int{v.CPU, v.Memory, v.Huge}
}

func rightVector(v api.Vector) bool {
	return v.CPU >= 0 && v.CPU <= mostCPU && v.Memory >= 0 && v.Memory <= mostBytes && v.Huge >= 0 && v.Huge <= mostBytes && v.Huge%page == 0
}

func rightName(s string) bool {
	return len(s) >= 1 && len(s) <= 16 && strings.Trim(s, "abcdefghijklmnopqrstuvwxyz0123456789-") == "" && !strings.HasPrefix(s, "-") && !strings.HasSuffix(s, "-")
}

func rightContainer(c api.Container) bool {
	if !rightName(c.Name) || !rightVector(c.Requests) || !rightVector(c.Limits) || c.Requests.Huge != c.Limits.Huge {
		return false
	}
	return (c.Limits.CPU == 0 || c.Limits.CPU >= c.Requests.CPU) && (c.Limits.Memory == 0 || c.Limits.Memory >= c.Requests.Memory)
}

// total of vectors, if each and all together are right, by numbers that never wrap round.
func total(l []api.Vector) (api.Vector, bool) {
	var n [3]*big.Int
	for r := range n {
		n[r] = new(big.Int)
	}
	for _, v := range l {
		if !rightVector(v) {
			return none, false
		}
		for r, x := range parts(v) {
			n[r].Add(n[r], big.NewInt(int64(x)))
		}
	}
	for r, bound := range [3]int64{mostCPU, mostBytes, mostBytes} {
		if n[r].Cmp(big.NewInt(bound)) > 0 {
			return none, false
		}
	}
	return vec(int(n[0].Int64()), int(n[1].Int64()), int(n[2].Int64())), true
}

func allRequests(p api.Pod) []api.Vector {
	var l []api.Vector
	for _, c := range p.Containers {
		l = append(l, c.Requests)
	}
	return l
}

func allLimits(p api.Pod) []api.Vector {
	var l []api.Vector
	for _, c := range p.Containers {
		l = append(l, c.Limits)
	}
	return l
}

func rightPod(p api.Pod) bool {
	if !rightName(p.Name) || p.Priority < -1000 || p.Priority > 1000 || p.Policy < 0 || p.Policy > 2 || len(p.Containers) < 1 || len(p.Containers) > 6 {
		return false
	}
	names := map[string]int{}
	for _, c := range p.Containers {
		names[c.Name]++
		if !rightContainer(c) {
			return false
		}
	}
	_, requests := total(allRequests(p))
	_, limits := total(allLimits(p))
	return len(names) == len(p.Containers) && requests && limits
}

func class(p api.Pod) int {
	alike, zeros := 0, 0
	for _, c := range p.Containers {
		for r := range 2 {
			request, limit := parts(c.Requests)[r], parts(c.Limits)[r]
			if request == limit && limit != 0 {
				alike++
			}
			if request == 0 && limit == 0 {
				zeros++
			}
		}
	}
	switch 2 * len(p.Containers) {
	case zeros:
		return api.BestEffort
	case alike:
		return api.Guaranteed
	}
	return api.Burstable
}

func TestP5_1Name(t *testing.T) {
	z := strings.Repeat("z", 15)
	for s, want := range map[string]bool{
		"": false, "a": true, "z": true, "0": true, "9": true, "-": false, "--": false, "---": false,
		"ab": true, "a-": false, "-a": false, "a-b": true, "a--b": true, "-a-": false, "0-9": true, "web-1": true,
		z: true, z + "z": true, z + "zz": false, z + "0": true, z + "-": false, "-" + z: false, z + "-z": false, strings.Repeat("a-", 7) + "aa": true, strings.Repeat("a", 1<<20): false,
		"A": false, "aB": false, "Ab": false, "a.b": false, "a_b": false, "a b": false, " a": false, "a ": false, "a\n": false, "a/b": false, "a,b": false, "a=b": false,
		"\x00": false, "a\x00": false, "\xff": false, "a\xffb": false, "é": false, "aéb": false, "ａ": false, "٣": false, "‐": false, "a–b": false, "ſ": false,
	} {
		if got := spec.Name(s); got != want {
			t.Errorf("Name(%.30q): %v", s, got)
		}
	}
}

// Each byte, alone and at each place of a name.
func TestP5_1NameBytes(t *testing.T) {
	for n := range 256 {
		b := byte(n)
		letter := b >= 'a' && b <= 'z' || b >= '0' && b <= '9'
		for length := 1; length <= 17; length++ {
			for at := range length {
				s := []byte(strings.Repeat("a", length))
				s[at] = b
				inside := at > 0 && at < length-1
				want := length <= 16 && (letter || b == '-' && inside)
				if got := spec.Name(string(s)); got != want {
					t.Fatalf("Name(%q): %v", s, got)
				}
			}
		}
	}
}

func TestP5_1Container(t *testing.T) {
	for i, x := range []struct {
		c  api.Container
		ok bool
	}{
		{box("a", none, none), true},
		{box("a", vec(5, 5, 0), vec(5, 5, 0)), true},
		// A Limit of 0, the Request, one less and one more: of CPU, and of Memory.
		{box("a", vec(5, 5, 0), vec(0, 5, 0)), true}, {box("a", vec(5, 5, 0), vec(4, 5, 0)), false}, {box("a", vec(5, 5, 0), vec(6, 5, 0)), true}, {box("a", vec(5, 5, 0), vec(1, 5, 0)), false},
		{box("a", vec(5, 5, 0), vec(5, 0, 0)), true}, {box("a", vec(5, 5, 0), vec(5, 4, 0)), false}, {box("a", vec(5, 5, 0), vec(5, 6, 0)), true}, {box("a", vec(5, 5, 0), vec(5, 1, 0)), false},
		{box("a", vec(5, 5, 0), none), true}, {box("a", none, vec(1, 1, 0)), true}, {box("a", vec(1, 0, 0), vec(0, 1, 0)), true},
		// Huge pages: both alike.
		{box("a", vec(0, 0, page), vec(0, 0, page)), true}, {box("a", vec(0, 0, page), none), false}, {box("a", none, vec(0, 0, page)), false}, {box("a", vec(0, 0, page), vec(0, 0, 2*page)), false}, {box("a", vec(0, 0, 2*page), vec(0, 0, page)), false}, {box("a", vec(0, 0, 1), vec(0, 0, 1)), false}, {box("a", vec(0, 0, -page), vec(0, 0, -page)), false},
		// Requests and Limits that aren't right.
		{box("a", vec(mostCPU, mostBytes, mostBytes), vec(mostCPU, mostBytes, mostBytes)), true}, {box("a", vec(mostCPU+1, 0, 0), none), false}, {box("a", vec(0, mostBytes+1, 0), none), false}, {box("a", none, vec(mostCPU+1, 0, 0)), false}, {box("a", none, vec(0, mostBytes+1, 0)), false},
		{box("a", vec(-1, 0, 0), none), false}, {box("a", vec(0, -1, 0), none), false}, {box("a", vec(-1, 0, 0), vec(-1, 0, 0)), false}, {box("a", vec(-5, 0, 0), vec(-1, 0, 0)), false}, {box("a", none, vec(-1, 0, 0)), false}, {box("a", none, vec(0, -1, 0)), false},
		{box("a", vec(least, least, least), vec(least, least, least)), false}, {box("a", vec(most, most, most), vec(most, most, most)), false},
		// Names.
		{box("", none, none), false}, {box("-", none, none), false}, {box("A", none, none), false}, {box(strings.Repeat("a", 16), none, none), true}, {box(strings.Repeat("a", 17), none, none), false},
		// What restarts it is no matter.
		{api.Container{Name: "a", Restart: [3]bool{true, true, true}}, true},
	} {
		if got := spec.Container(x.c); got != x.ok {
			t.Errorf("%d: Container(%v): %v", i, x.c, got)
		}
	}
}

// vectors: edges of each resource, each with each.
func vectors() []api.Vector {
	var l []api.Vector
	for _, c := range []int{least, -1, 0, 1, 2, mostCPU, mostCPU + 1} {
		for _, m := range []int{-1, 0, 1, 2, mostBytes, mostBytes + 1, most} {
			for _, h := range []int{-page, 0, 1, page, mostBytes, mostBytes + page} {
				l = append(l, vec(c, m, h))
			}
		}
	}
	return l
}

// Each Requests with each Limits: right containers, the class of a pod of one, and its Requests.
func TestP5_1EachWithEach(t *testing.T) {
	for _, a := range vectors() {
		for _, b := range vectors() {
			c := box("a", a, b)
			p := pod(c)
			if got := spec.Container(c); got != rightContainer(c) {
				t.Fatalf("Container(%v): %v", c, got)
			}
			if got := spec.Pod(p); got != rightContainer(c) {
				t.Fatalf("Pod(%v): %v", p, got)
			}
			if got := spec.Class(p); got != class(p) {
				t.Fatalf("Class(%v): %d", p, got)
			}
			want, _ := total([]api.Vector{a})
			if got := spec.Requests(p); got != want {
				t.Fatalf("Requests(%v): %v", p, got)
			}
		}
	}
}

// of: n containers of unlike names, each with these.
func of(n int, requests, limits api.Vector) api.Pod {
	p := pod()
	for i := range n {
		p.Containers = append(p.Containers, box("c"+strconv.Itoa(i), requests, limits))
	}
	return p
}

func TestP5_1Pod(t *testing.T) {
	set := func(f func(p *api.Pod)) api.Pod {
		p := of(2, vec(1, 1, 0), vec(1, 1, 0))
		f(&p)
		return p
	}
	for i, x := range []struct {
		p  api.Pod
		ok bool
	}{
		{noPod, false}, {of(0, none, none), false}, {of(1, none, none), true}, {of(2, none, none), true}, {of(5, none, none), true}, {of(6, none, none), true}, {of(7, none, none), false}, {of(1000, none, none), false},
		{api.Pod{Name: "p", Containers: []api.Container{}}, false},
		{set(func(p *api.Pod) {}), true},
		{set(func(p *api.Pod) { p.Name = "" }), false}, {set(func(p *api.Pod) { p.Name = "-p" }), false}, {set(func(p *api.Pod) { p.Name = "P" }), false}, {set(func(p *api.Pod) { p.Name = strings.Repeat("p", 16) }), true}, {set(func(p *api.Pod) { p.Name = strings.Repeat("p", 17) }), false},
		// A pod may have the name of a container of its own.
		{set(func(p *api.Pod) { p.Name = "c0" }), true},
		{set(func(p *api.Pod) { p.Priority = -1000 }), true}, {set(func(p *api.Pod) { p.Priority = -1001 }), false}, {set(func(p *api.Pod) { p.Priority = -999 }), true}, {set(func(p *api.Pod) { p.Priority = 1000 }), true}, {set(func(p *api.Pod) { p.Priority = 1001 }), false}, {set(func(p *api.Pod) { p.Priority = 999 }), true}, {set(func(p *api.Pod) { p.Priority = least }), false}, {set(func(p *api.Pod) { p.Priority = most }), false},
		{set(func(p *api.Pod) { p.Policy = -1 }), false}, {set(func(p *api.Pod) { p.Policy = 0 }), true}, {set(func(p *api.Pod) { p.Policy = 1 }), true}, {set(func(p *api.Pod) { p.Policy = 2 }), true}, {set(func(p *api.Pod) { p.Policy = 3 }), false}, {set(func(p *api.Pod) { p.Policy = least }), false}, {set(func(p *api.Pod) { p.Policy = most }), false},
		{set(func(p *api.Pod) { p.Containers[1].Name = "c0" }), false}, {set(func(p *api.Pod) { p.Containers[1].Name = "c-0" }), true}, {set(func(p *api.Pod) { p.Containers[1].Name = "" }), false}, {set(func(p *api.Pod) { p.Containers[0].Name = "c." }), false},
		{set(func(p *api.Pod) { p.Containers[1].Limits.CPU = 0 }), true}, {set(func(p *api.Pod) { p.Containers[1].Requests.CPU = 2 }), false}, {set(func(p *api.Pod) { p.Containers[0].Requests.Memory = 2 }), false}, {set(func(p *api.Pod) { p.Containers[1].Requests.Huge = page }), false}, {set(func(p *api.Pod) { p.Containers[1].Limits.Huge = page }), false},
		// Each right, but not added up: the Requests alone, the Limits alone.
		{of(2, vec(mostCPU/2, 0, 0), none), true}, {of(2, vec(mostCPU/2+1, 0, 0), none), false}, {of(2, none, vec(mostCPU/2, 0, 0)), true}, {of(2, none, vec(mostCPU/2+1, 0, 0)), false},
		{of(4, vec(0, mostBytes/4, 0), none), true}, {of(4, vec(0, mostBytes/4+1, 0), none), false}, {of(4, none, vec(0, mostBytes/4, 0)), true}, {of(4, none, vec(0, mostBytes/4+1, 0)), false},
		{of(4, vec(0, 0, mostBytes/4), vec(0, 0, mostBytes/4)), true}, {of(4, vec(0, 0, mostBytes/4+page), vec(0, 0, mostBytes/4+page)), false},
		{pod(box("a", vec(mostCPU, mostBytes, 0), none), box("b", none, vec(mostCPU, mostBytes, 0))), true}, {pod(box("a", vec(mostCPU, 0, 0), none), box("b", vec(1, 0, 0), none)), false}, {pod(box("a", none, vec(0, mostBytes, 0)), box("b", none, vec(0, 1, 0))), false},
	} {
		if got := spec.Pod(x.p); got != x.ok {
			t.Errorf("%d: Pod(%v): %v", i, x.p, got)
		}
	}
	// Two of one Name, and one that isn't right, at whichever places.
	for n := 2; n <= 6; n++ {
		for at := range n {
			p := of(n, none, none)
			p.Containers[at].Limits.CPU = -1
			if spec.Pod(p) {
				t.Errorf("Pod(%v)", p)
			}
			for other := range at {
				p := of(n, none, none)
				p.Containers[at].Name = p.Containers[other].Name
				if spec.Pod(p) {
					t.Errorf("Pod(%v)", p)
				}
			}
		}
	}
}

func TestP5_1Class(t *testing.T) {
	one, two := vec(1, 1, 0), vec(2, 2, 0)
	for i, x := range []struct {
		p api.Pod
		c int
	}{
		// Without containers.
		{noPod, api.BestEffort}, {api.Pod{Containers: []api.Container{}}, api.BestEffort}, {pod(), api.BestEffort},
		{pod(box("a", vec(1000, 1<<30, 0), vec(1000, 1<<30, 0))), api.Guaranteed},
		{pod(box("a", one, one), box("b", two, two)), api.Guaranteed}, {pod(box("a", vec(1, 2, 0), vec(1, 2, 0))), api.Guaranteed},
		{pod(box("a", none, none)), api.BestEffort}, {pod(box("a", none, none), box("b", none, none)), api.BestEffort},
		// One resource alone, or one container alone, isn't enough.
		{pod(box("a", vec(1, 0, 0), vec(1, 0, 0))), api.Burstable}, {pod(box("a", vec(0, 1, 0), vec(0, 1, 0))), api.Burstable}, {pod(box("a", one, one), box("b", none, none)), api.Burstable}, {pod(box("a", none, none), box("b", one, one)), api.Burstable}, {pod(box("a", one, one), box("b", one, two)), api.Burstable}, {pod(box("a", one, two), box("b", one, one)), api.Burstable},
		{pod(box("a", one, none)), api.Burstable}, {pod(box("a", none, one)), api.Burstable}, {pod(box("a", vec(1, 0, 0), none)), api.Burstable}, {pod(box("a", none, vec(0, 1, 0))), api.Burstable}, {pod(box("a", one, vec(1, 2, 0))), api.Burstable}, {pod(box("a", one, vec(2, 1, 0))), api.Burstable}, {pod(box("a", one, vec(0, 1, 0))), api.Burstable}, {pod(box("a", one, vec(1, 0, 0))), api.Burstable},
		// Sums that are alike aren't enough.
		{pod(box("a", one, two), box("b", two, one)), api.Burstable}, {pod(box("a", vec(1, 2, 0), vec(2, 1, 0))), api.Burstable},
		// Huge pages tell nothing.
		{pod(box("a", vec(0, 0, page), vec(0, 0, page))), api.BestEffort}, {pod(box("a", vec(1, 1, page), vec(1, 1, page))), api.Guaranteed}, {pod(box("a", vec(1, 1, page), vec(1, 1, 0))), api.Guaranteed}, {pod(box("a", vec(0, 0, page), none)), api.BestEffort},
		// Pods that aren't right.
		{pod(box("", vec(-1, -1, 0), vec(-1, -1, 0))), api.Guaranteed}, {pod(box("a", vec(-1, 0, 0), none)), api.Burstable}, {pod(box("a", one, one), box("a", one, one)), api.Guaranteed}, {of(7, one, one), api.Guaranteed}, {of(7, none, none), api.BestEffort}, {of(7, two, one), api.Burstable}, {api.Pod{Priority: most, Policy: -1, Containers: of(2, one, one).Containers}, api.Guaranteed}, {of(1, vec(most, least, 0), vec(most, least, 0)), api.Guaranteed},
	} {
		if got := spec.Class(x.p); got != x.c {
			t.Errorf("%d: Class(%v): %d", i, x.p, got)
		}
	}
}

func TestP5_1Requests(t *testing.T) {
	limit := vec(mostCPU, mostBytes, mostBytes)
	for i, x := range []struct {
		p api.Pod
		v api.Vector
	}{
		{noPod, none}, {pod(), none}, {of(1, vec(1, 2, page), limit), vec(1, 2, page)}, {of(6, vec(1, 2, page), limit), vec(6, 12, 6*page)}, {of(7, vec(1, 2, page), none), vec(7, 14, 7*page)},
		{pod(box("a", vec(1, 20, 0), limit), box("a", vec(300, 4000, page), limit)), vec(301, 4020, page)},
		{of(2, vec(mostCPU/2, mostBytes/2, mostBytes/2), none), vec(mostCPU, mostBytes, mostBytes)},
		// What isn't right, added up or by itself.
		{of(2, vec(mostCPU/2+1, 1, 0), none), none}, {of(2, vec(1, mostBytes/2+1, 0), none), none}, {of(2, vec(1, 1, mostBytes/2+page), none), none}, {of(1, vec(1, 1, 1), none), none}, {of(1, vec(-1, 1, 0), none), none},
		{pod(box("a", vec(5, 0, 0), none), box("b", vec(-1, 0, 0), none)), none}, {pod(box("a", vec(-1, 0, 0), none), box("b", vec(5, 0, 0), none)), none}, {pod(box("a", vec(0, 0, page/2), none), box("b", vec(0, 0, page/2), none)), none}, {of(2, vec(most, most, most), none), none}, {of(2, vec(least, least, least), none), none},
		// The Limits are no matter.
		{of(1, vec(9, 9, 0), vec(-1, -1, -1)), vec(9, 9, 0)},
	} {
		if got := spec.Requests(x.p); got != x.v {
			t.Errorf("%d: Requests(%v): %v", i, x.p, got)
		}
	}
}

func TestP5_1Find(t *testing.T) {
	p := pod(box("b", none, none), box("a", none, none), box("", none, none), box("b", vec(1, 1, 0), none), box("a", none, none))
	for name, want := range map[string]int{"b": 0, "a": 1, "": 2} {
		if at, ok := spec.Find(p, name); at != want || !ok {
			t.Errorf("Find(%q): %d %v", name, at, ok)
		}
	}
	for _, name := range []string{"c", "ab", "B", "a ", "p", "\xff", strings.Repeat("a", 1<<16)} {
		if at, ok := spec.Find(p, name); at != 0 || ok {
			t.Errorf("Find(%.20q): %d %v", name, at, ok)
		}
	}
	for _, p := range []api.Pod{noPod, pod(), {Name: "a"}} {
		for _, name := range []string{"", "a"} {
			if at, ok := spec.Find(p, name); at != 0 || ok {
				t.Errorf("Find(%v, %q): %d %v", p, name, at, ok)
			}
		}
	}
	for n := range 10 {
		for i := range n {
			if at, ok := spec.Find(of(n, none, none), "c"+strconv.Itoa(i)); at != i || !ok {
				t.Errorf("%d of %d: %d %v", i, n, at, ok)
			}
		}
	}
}

// others: a pod, each time with one part that is another one.
func others(p api.Pod) []api.Pod {
	var l []api.Pod
	add := func(f func(q *api.Pod)) {
		q := copied(p)
		f(&q)
		l = append(l, q)
	}
	add(func(q *api.Pod) { q.Name += "x" })
	add(func(q *api.Pod) { q.Priority++ })
	add(func(q *api.Pod) { q.Policy++ })
	add(func(q *api.Pod) { q.Containers = append(q.Containers, api.Container{}) })
	for i := range p.Containers {
		add(func(q *api.Pod) { q.Containers = slices.Delete(q.Containers, i, i+1) })
		add(func(q *api.Pod) { q.Containers[i].Name += "x" })
		for _, f := range []func(c *api.Container) *api.Vector{func(c *api.Container) *api.Vector { return &c.Requests }, func(c *api.Container) *api.Vector { return &c.Limits }} {
			add(func(q *api.Pod) { f(&q.Containers[i]).CPU++ })
			add(func(q *api.Pod) { f(&q.Containers[i]).Memory++ })
			add(func(q *api.Pod) { f(&q.Containers[i]).Huge++ })
		}
		for r := range 3 {
			add(func(q *api.Pod) { q.Containers[i].Restart[r] = !q.Containers[i].Restart[r] })
		}
		for j := range i {
			add(func(q *api.Pod) { q.Containers[i], q.Containers[j] = q.Containers[j], q.Containers[i] })
		}
	}
	return l
}

func TestP5_1Same(t *testing.T) {
	for _, p := range []api.Pod{noPod, {Name: "p", Priority: -1, Policy: 7}, of(1, vec(1, 2, 3), vec(4, 5, 6)), of(3, none, none), of(8, vec(-1, most, least), none)} {
		if !spec.Same(p, p) || !spec.Same(p, copied(p)) || !spec.Same(copied(p), p) {
			t.Errorf("Same(%v, itself)", p)
		}
		for _, q := range others(p) {
			if spec.Same(p, q) || spec.Same(q, p) {
				t.Errorf("Same(%v, %v)", p, q)
			}
			if !spec.Same(q, copied(q)) {
				t.Errorf("Same(%v, itself)", q)
			}
		}
	}
	if !spec.Same(api.Pod{Name: "p"}, api.Pod{Name: "p", Containers: []api.Container{}}) {
		t.Error("nil and empty lists are one")
	}
}

// three containers: bounded in both, in CPU alone, in Memory alone.
func three() api.Pod {
	p := pod(box("a", vec(10, 10, 0), vec(20, 20, 0)), box("b", vec(5, 5, page), vec(5, 0, page)), box("c", vec(5, 5, 0), vec(0, 5, 0)))
	p.Name, p.Priority, p.Policy = "three", 7, api.OnFailure
	p.Containers[0].Restart = [3]bool{true, false, true}
	p.Containers[1].Restart = [3]bool{false, true, false}
	return p
}

func TestP5_2Resize(t *testing.T) {
	p := three()
	good := func(name string) api.Change {
		return map[string]api.Change{"a": to("a", vec(1, 2, page), vec(3, 4, page)), "b": to("b", vec(6, 7, 0), vec(8, 0, 0)), "c": to("c", vec(9, 9, 0), vec(0, 9, 0))}[name]
	}
	toZero, toSome := to("a", vec(1, 1, 0), vec(0, 20, 0)), to("b", vec(1, 1, 0), vec(5, 5, 0))
	wrong := to("a", vec(30, 10, 0), vec(20, 20, 0))
	missing := to("d", vec(1, 1, 0), vec(1, 1, 0))
	for i, x := range []struct {
		l []api.Change
		e api.Errno
	}{
		{[]api.Change{good("a")}, api.OK}, {[]api.Change{good("b")}, api.OK}, {[]api.Change{good("c")}, api.OK}, {[]api.Change{good("c"), good("a"), good("b")}, api.OK},
		{[]api.Change{to("a", vec(10, 10, 0), vec(20, 20, 0))}, api.OK}, {[]api.Change{to("a", vec(20, 20, 0), vec(20, 20, 0))}, api.OK}, {[]api.Change{to("a", none, vec(1, 1, 0))}, api.OK}, {[]api.Change{to("c", none, vec(0, 1, 0))}, api.OK},
		{nil, api.ErrArg}, {[]api.Change{}, api.ErrArg},
		{[]api.Change{missing}, api.ErrNone}, {[]api.Change{to("", none, none)}, api.ErrNone}, {[]api.Change{to("A", none, none)}, api.ErrNone}, {[]api.Change{to("three", none, none)}, api.ErrNone}, {[]api.Change{to("aa", vec(-1, -1, -1), none)}, api.ErrNone}, {[]api.Change{good("a"), missing}, api.ErrNone}, {[]api.Change{missing, missing}, api.ErrNone},
		{[]api.Change{good("a"), good("a")}, api.ErrThere}, {[]api.Change{good("a"), good("b"), good("a")}, api.ErrThere}, {[]api.Change{good("a"), good("b"), good("c"), good("c")}, api.ErrThere},
		// A Limit that comes to be 0, or isn't 0 any more: of CPU, and of Memory.
		{[]api.Change{toZero}, api.ErrChange}, {[]api.Change{to("a", vec(1, 1, 0), vec(20, 0, 0))}, api.ErrChange}, {[]api.Change{to("a", none, none)}, api.ErrChange}, {[]api.Change{toSome}, api.ErrChange}, {[]api.Change{to("b", vec(1, 1, 0), vec(0, 0, 0))}, api.ErrChange}, {[]api.Change{to("b", vec(1, 1, 0), vec(0, 5, 0))}, api.ErrChange}, {[]api.Change{to("c", vec(1, 1, 0), vec(1, 5, 0))}, api.ErrChange}, {[]api.Change{to("c", vec(1, 1, 0), vec(0, 0, 0))}, api.ErrChange}, {[]api.Change{to("c", vec(1, 1, 0), vec(-1, 5, 0))}, api.ErrChange}, {[]api.Change{to("b", vec(1, 1, 0), vec(5, least, 0))}, api.ErrChange},
		// To a pod that isn't right.
		{[]api.Change{wrong}, api.ErrArg}, {[]api.Change{to("a", vec(10, 21, 0), vec(20, 20, 0))}, api.ErrArg}, {[]api.Change{to("a", vec(-1, 10, 0), vec(20, 20, 0))}, api.ErrArg}, {[]api.Change{to("a", vec(10, 10, 0), vec(-20, 20, 0))}, api.ErrArg}, {[]api.Change{to("a", vec(10, 10, page), vec(20, 20, 0))}, api.ErrArg}, {[]api.Change{to("a", vec(10, 10, 0), vec(20, 20, page))}, api.ErrArg}, {[]api.Change{to("a", vec(10, 10, 1), vec(20, 20, 1))}, api.ErrArg}, {[]api.Change{to("b", vec(5, 5, 2*page), vec(5, 0, page))}, api.ErrArg},
		{[]api.Change{to("a", vec(10, 10, 0), vec(mostCPU, 20, 0))}, api.ErrArg}, {[]api.Change{to("a", vec(10, 10, 0), vec(mostCPU-5, 20, 0))}, api.OK}, {[]api.Change{to("a", vec(10, 10, 0), vec(mostCPU-4, 20, 0))}, api.ErrArg}, {[]api.Change{to("b", vec(5, mostBytes-15, 0), vec(5, 0, 0))}, api.OK}, {[]api.Change{to("b", vec(5, mostBytes-14, 0), vec(5, 0, 0))}, api.ErrArg}, {[]api.Change{to("b", vec(5, most, 0), vec(5, 0, 0))}, api.ErrArg},
		// Too much behind the first change, and right behind all of them.
		{[]api.Change{to("a", vec(10, 10, 0), vec(mostCPU-1, 20, 0)), to("b", vec(1, 1, 0), vec(1, 0, 0))}, api.OK},
		// Change by change: the first one that is wrong is told.
		{[]api.Change{missing, toZero}, api.ErrNone}, {[]api.Change{toZero, missing}, api.ErrChange}, {[]api.Change{toZero, toZero}, api.ErrChange}, {[]api.Change{good("a"), toZero}, api.ErrThere}, {[]api.Change{good("a"), toSome, missing}, api.ErrChange}, {[]api.Change{good("a"), missing, toSome}, api.ErrNone}, {[]api.Change{good("a"), toZero, missing}, api.ErrThere}, {[]api.Change{good("a"), toSome, good("a")}, api.ErrChange}, {[]api.Change{missing, good("a"), good("a")}, api.ErrNone},
		// What isn't right is told behind all of these.
		{[]api.Change{wrong, missing}, api.ErrNone}, {[]api.Change{wrong, wrong}, api.ErrThere}, {[]api.Change{wrong, good("a")}, api.ErrThere}, {[]api.Change{wrong, toSome}, api.ErrChange}, {[]api.Change{wrong, good("b")}, api.ErrArg}, {[]api.Change{good("b"), wrong}, api.ErrArg},
	} {
		q, e := spec.Resize(p, x.l...)
		if e != x.e || e != api.OK && !same(q, noPod) {
			t.Errorf("%d: Resize(%v): %v %d, want %d", i, x.l, q, e, x.e)
		}
	}
	if !same(p, three()) {
		t.Errorf("changed: %v", p)
	}
}

func TestP5_2ResizeAnswer(t *testing.T) {
	q, e := spec.Resize(three(), to("c", vec(9, 9, 2*page), vec(0, 9, 2*page)), to("a", vec(1, 2, 0), vec(3, 4, 0)))
	want := three()
	want.Containers[0].Requests, want.Containers[0].Limits = vec(1, 2, 0), vec(3, 4, 0)
	want.Containers[2].Requests, want.Containers[2].Limits = vec(9, 9, 2*page), vec(0, 9, 2*page)
	if e != api.OK || !same(q, want) {
		t.Errorf("%v %d", q, e)
	}
	// Six containers, named from the last one on.
	p := of(6, vec(1, 1, 0), vec(2, 2, 0))
	var l []api.Change
	for i := range 6 {
		l = append(l, to("c"+strconv.Itoa(5-i), vec(5-i, 1, 0), vec(9, 9, 0)))
	}
	q, e = spec.Resize(p, l...)
	for i := range 6 {
		p.Containers[i].Requests, p.Containers[i].Limits = vec(i, 1, 0), vec(9, 9, 0)
	}
	if e != api.OK || !same(q, p) {
		t.Errorf("%v %d", q, e)
	}
	for i := range l {
		if _, e := spec.Resize(p, append(slices.Clone(l), l[i])...); e != api.ErrThere {
			t.Errorf("%d: %d", i, e)
		}
	}
}

// A pod that isn't right: ErrArg, whatever the changes.
func TestP5_2ResizeOfWrong(t *testing.T) {
	a := box("a", vec(1, 1, 0), vec(1, 1, 0))
	for _, p := range []api.Pod{noPod, pod(), of(7, none, none), pod(a, a), pod(box("a", vec(2, 1, 0), vec(1, 1, 0))), {Name: "P", Containers: []api.Container{a}}, {Name: "p", Priority: 1001, Containers: []api.Container{a}}, {Name: "p", Policy: 3, Containers: []api.Container{a}}, of(1000, none, none)} {
		for _, l := range [][]api.Change{nil, {to("a", vec(1, 1, 0), vec(1, 1, 0))}, {to("z", none, none)}, {to("a", none, none), to("a", none, none)}, {to("c0", none, none)}, {to("c6", none, none)}, {to("c999", none, none)}} {
			if q, e := spec.Resize(p, l...); e != api.ErrArg || !same(q, noPod) {
				t.Errorf("Resize(%v, %v): %v %d", p, l, q, e)
			}
		}
	}
}

func TestP5_2ResizeClass(t *testing.T) {
	one, two := vec(1, 1, 0), vec(2, 2, 0)
	for i, x := range []struct {
		p api.Pod
		c api.Change
		e api.Errno
	}{
		{of(1, one, one), to("c0", two, two), api.OK}, {of(2, one, one), to("c0", vec(7, 9, page), vec(7, 9, page)), api.OK}, {of(1, one, one), to("c0", one, two), api.ErrChange}, {of(2, one, one), to("c1", one, vec(1, 2, 0)), api.ErrChange}, {of(1, one, one), to("c0", none, one), api.ErrChange},
		{of(1, one, two), to("c0", one, one), api.ErrChange}, {of(1, one, two), to("c0", two, two), api.ErrChange}, {of(2, one, two), to("c0", one, one), api.OK}, {of(1, one, two), to("c0", none, two), api.OK},
		{of(1, none, none), to("c0", none, none), api.OK}, {of(1, none, none), to("c0", vec(1, 0, 0), none), api.ErrChange}, {of(2, none, none), to("c1", vec(0, 1, 0), none), api.ErrChange}, {of(1, none, none), to("c0", vec(0, 0, page), vec(0, 0, page)), api.OK}, {of(1, one, none), to("c0", none, none), api.ErrChange}, {of(2, one, none), to("c0", none, none), api.OK},
		// Not right, and of another class: not right.
		{of(1, one, one), to("c0", two, one), api.ErrArg}, {of(1, one, one), to("c0", vec(-1, 1, 0), one), api.ErrArg}, {of(1, none, none), to("c0", vec(1, 0, 1), none), api.ErrArg}, {of(1, one, two), to("c0", vec(-1, -1, 0), vec(-1, -1, 0)), api.ErrArg},
	} {
		q, e := spec.Resize(x.p, x.c)
		if e != x.e || spec.Pod(q) != (e == api.OK) {
			t.Errorf("%d: Resize(%v, %v): %v %d", i, x.p, x.c, q, e)
		}
	}
	// From one class to another one by two changes, whichever comes first; there and back by two is none.
	p := of(2, one, two)
	if _, e := spec.Resize(p, to("c0", one, one), to("c1", two, two)); e != api.ErrChange {
		t.Errorf("%d", e)
	}
	p = pod(box("a", one, one), box("b", one, two))
	if q, e := spec.Resize(p, to("a", one, two), to("b", two, two)); e != api.OK || spec.Class(q) != api.Burstable {
		t.Errorf("%v %d", q, e)
	}
}

// resized is what the document says of Resize, told otherwise: errors of each change ahead of those of the whole.
func resized(p api.Pod, l []api.Change) (api.Pod, api.Errno) {
	if !rightPod(p) || len(l) == 0 {
		return noPod, api.ErrArg
	}
	q := copied(p)
	for i, x := range l {
		at := slices.IndexFunc(p.Containers, func(c api.Container) bool { return c.Name == x.Name })
		ahead := slices.ContainsFunc(l[:i], func(y api.Change) bool { return y.Name == x.Name })
		switch {
		case at < 0:
			return noPod, api.ErrNone
		case ahead:
			return noPod, api.ErrThere
		}
		for r := range 2 {
			from, into := parts(p.Containers[at].Limits)[r], parts(x.Limits)[r]
			if from != 0 && into == 0 || from == 0 && into != 0 {
				return noPod, api.ErrChange
			}
		}
		q.Containers[at] = api.Container{Name: x.Name, Requests: x.Requests, Limits: x.Limits, Restart: p.Containers[at].Restart}
	}
	switch {
	case !rightPod(q):
		return noPod, api.ErrArg
	case class(q) != class(p):
		return noPod, api.ErrChange
	}
	return q, api.OK
}

// changes of all kinds, right and wrong, of three names.
func changes() []api.Change {
	var l []api.Change
	for _, name := range []string{"a", "b", "z"} {
		for _, x := range [][2]api.Vector{{none, none}, {vec(1, 1, 0), vec(1, 1, 0)}, {vec(1, 1, 0), vec(2, 1, 0)}, {vec(2, 2, page), vec(2, 2, page)}, {vec(1, 1, 0), none}, {none, vec(1, 1, 0)}, {vec(1, 1, 0), vec(1, 0, 0)}, {vec(1, 1, 0), vec(0, 2, 0)}, {vec(2, 1, 0), vec(1, 1, 0)}, {vec(1, 1, page), vec(1, 1, 0)}, {vec(-1, 1, 0), vec(1, 1, 0)}, {vec(1, 1, 0), vec(mostCPU, 1, 0)}, {vec(1, mostBytes, 0), vec(1, 0, 0)}, {vec(0, 0, page), vec(0, 0, page)}} {
			l = append(l, to(name, x[0], x[1]))
		}
	}
	return l
}

// pods of one and of two containers, of what the changes tell, most of them right.
func pods() []api.Pod {
	var l []api.Pod
	for _, x := range changes() {
		if x.Name != "a" {
			continue
		}
		a := box("a", x.Requests, x.Limits)
		a.Restart = [3]bool{true, false, true}
		l = append(l, pod(a))
		for _, y := range changes() {
			if y.Name == "b" {
				b := box("b", y.Requests, y.Limits)
				b.Restart = [3]bool{false, true, true}
				l = append(l, api.Pod{Name: "q", Priority: -3, Policy: 2, Containers: []api.Container{b, a}})
			}
		}
	}
	return l
}

// eachResize goes over pods, each with none, one and two changes, and some with three.
func eachResize(f func(p api.Pod, l []api.Change)) {
	all := changes()
	for _, p := range pods() {
		f(p, nil)
		for i, x := range all {
			f(p, []api.Change{x})
			for j, y := range all {
				f(p, []api.Change{x, y})
				f(p, []api.Change{x, y, all[(7*i+j)%len(all)]})
			}
		}
	}
}

func TestP5_2EachResize(t *testing.T) {
	seen := map[api.Errno]int{}
	eachResize(func(p api.Pod, l []api.Change) {
		want, wantErr := resized(p, l)
		q, e := spec.Resize(p, l...)
		if e != wantErr || !same(q, want) {
			t.Fatalf("Resize(%v, %v): %v %d, want %v %d", p, l, q, e, want, wantErr)
		}
		seen[e]++
	})
	for _, e := range []api.Errno{api.OK, api.ErrArg, api.ErrNone, api.ErrThere, api.ErrChange} {
		if seen[e] < 100 {
			t.Errorf("%d: %d times alone", e, seen[e])
		}
	}
}

func TestP5_3Changed(t *testing.T) {
	a := three()
	b := copied(a)
	held := func(what string, got [][3]bool, want ...[3]bool) {
		t.Helper()
		if !slices.Equal(got, want) {
			t.Errorf("%s: %v, want %v", what, got, want)
		}
	}
	no := [3]bool{}
	held("itself", spec.Changed(a, b), no, no, no)
	held("none", spec.Changed(noPod, a))
	held("empty", spec.Changed(api.Pod{Containers: []api.Container{}}, a))
	held("to none", spec.Changed(a, noPod), no, no, no)
	// The other parts are no matter.
	b.Name, b.Priority, b.Policy, b.Containers[0].Restart = "other", -7, 0, [3]bool{false, true, false}
	held("other parts", spec.Changed(a, b), no, no, no)
	b.Containers[0].Requests.CPU++
	b.Containers[1].Limits.Memory--
	b.Containers[2].Requests.Huge++
	held("each", spec.Changed(a, b), [3]bool{true, false, false}, [3]bool{false, true, false}, [3]bool{false, false, true})
	held("back", spec.Changed(b, a), [3]bool{true, false, false}, [3]bool{false, true, false}, [3]bool{false, false, true})
	b.Containers[1].Limits.CPU = 0
	b.Containers[1].Requests.Huge = 0
	held("several", spec.Changed(a, b), [3]bool{true, false, false}, [3]bool{true, true, true}, [3]bool{false, false, true})
	// b's containers in another order: a's order holds.
	slices.Reverse(b.Containers)
	held("another order", spec.Changed(a, b), [3]bool{true, false, false}, [3]bool{true, true, true}, [3]bool{false, false, true})
	held("another order, back", spec.Changed(b, a), [3]bool{false, false, true}, [3]bool{true, true, true}, [3]bool{true, false, false})
	// Fewer, other and more of them.
	held("fewer", spec.Changed(a, pod(b.Containers[1])), no, [3]bool{true, true, true}, no)
	held("more", spec.Changed(pod(a.Containers[1]), b), [3]bool{true, true, true})
	b.Containers[1].Name = "x"
	held("other", spec.Changed(a, b), [3]bool{true, false, false}, no, [3]bool{false, false, true})
	// Of several of one name the first one of b, for each one of a.
	held("of one name", spec.Changed(pod(box("a", vec(1, 1, 0), none), box("a", vec(2, 2, 0), none)), pod(box("a", vec(1, 2, 0), none), box("a", vec(2, 2, 0), none))), [3]bool{false, true, false}, [3]bool{true, false, false})
	held("without names", spec.Changed(pod(box("", none, none)), pod(box("", none, vec(least, most, -1)))), [3]bool{true, true, true})
	if l := spec.Changed(of(1000, none, none), of(999, vec(1, 0, 0), none)); len(l) != 1000 || l[999] != no || l[0] != [3]bool{true, false, false} || l[998] != l[0] {
		t.Errorf("%v", l)
	}
}

// Which resource differs, in Requests, in Limits, in both: each way.
func TestP5_3ChangedEach(t *testing.T) {
	for bits := range 64 {
		from := vec(100, 100, 100)
		requests, limits := from, from
		var want [3]bool
		for r, n := range [3][2]*int{{&requests.CPU, &limits.CPU}, {&requests.Memory, &limits.Memory}, {&requests.Huge, &limits.Huge}} {
			*n[0] += bits >> r & 1
			*n[1] -= bits >> (r + 3) & 1
			want[r] = bits>>r&9 != 0
		}
		for restart := range 8 {
			a, b := pod(box("a", from, from)), pod(box("a", requests, limits))
			set := [3]bool{restart&1 != 0, restart&2 != 0, restart&4 != 0}
			a.Containers[0].Restart = set
			// What b says of restarts is no matter.
			b.Containers[0].Restart = [3]bool{!set[0], !set[1], !set[2]}
			if l := spec.Changed(a, b); len(l) != 1 || l[0] != want {
				t.Fatalf("Changed(%v, %v): %v", a, b, l)
			}
			wanted := want[0] && set[0] || want[1] && set[1] || want[2] && set[2]
			if l := spec.Restarts(a, b); wanted != slices.Equal(l, []string{"a"}) || !wanted && len(l) != 0 {
				t.Fatalf("Restarts(%v, %v): %v", a, b, l)
			}
		}
	}
}

func TestP5_3Restarts(t *testing.T) {
	a := of(4, vec(1, 1, 0), vec(2, 2, 0))
	b := of(4, vec(2, 2, page), vec(3, 3, page))
	held := func(what string, got []string, want ...string) {
		t.Helper()
		if !slices.Equal(got, want) {
			t.Errorf("%s: %q, want %q", what, got, want)
		}
	}
	held("none is set", spec.Restarts(a, b))
	for i := range 4 {
		a.Containers[i].Restart = [3]bool{true, true, true}
	}
	// Once each, however many changed.
	held("all", spec.Restarts(a, b), "c0", "c1", "c2", "c3")
	held("back", spec.Restarts(b, a))
	held("itself", spec.Restarts(a, copied(a)))
	held("to none", spec.Restarts(a, noPod))
	held("of none", spec.Restarts(noPod, b))
	a.Containers[0].Restart = [3]bool{}
	a.Containers[2].Restart = [3]bool{false, false, true}
	held("some", spec.Restarts(a, b), "c1", "c2", "c3")
	b.Containers[2].Requests.Huge, b.Containers[2].Limits.Huge = 0, 0
	held("another resource", spec.Restarts(a, b), "c1", "c3")
	slices.Reverse(a.Containers)
	held("a's order", spec.Restarts(a, b), "c3", "c1")
	slices.Reverse(b.Containers)
	held("b's order", spec.Restarts(a, b), "c3", "c1")
	b.Containers[0].Name = "x"
	held("another one", spec.Restarts(a, b), "c1")
	held("fewer", spec.Restarts(a, pod(b.Containers[2])), "c1")
	// As they are named in a, of one name too.
	x, y := box("x", none, none), box("x", vec(1, 0, 0), none)
	x.Restart, y.Restart = [3]bool{true, false, false}, [3]bool{true, false, false}
	held("of one name", spec.Restarts(pod(x, y, x), pod(y)), "x", "x")
	held("the first one of b", spec.Restarts(pod(x, y, x), pod(x, y)), "x")
}

func TestP5_4Resized(t *testing.T) {
	done := 0
	eachResize(func(p api.Pod, l []api.Change) {
		q, e := spec.Resize(p, l...)
		if e != api.OK {
			return
		}
		done++
		if !spec.Pod(q) || spec.Class(q) != spec.Class(p) || q.Name != p.Name || q.Priority != p.Priority || q.Policy != p.Policy || len(q.Containers) != len(p.Containers) {
			t.Fatalf("Resize(%v, %v): %v", p, l, q)
		}
		for i, c := range q.Containers {
			was := p.Containers[i]
			want := api.Change{Name: was.Name, Requests: was.Requests, Limits: was.Limits}
			for _, x := range l {
				if x.Name == was.Name {
					want = x
				}
			}
			if c.Name != was.Name || c.Restart != was.Restart || c.Requests != want.Requests || c.Limits != want.Limits {
				t.Fatalf("Resize(%v, %v): %v", p, l, q)
			}
		}
		// To what there was before, it comes back the same way, whole.
		var back []api.Change
		for _, c := range p.Containers {
			back = append(back, to(c.Name, c.Requests, c.Limits))
		}
		if r, e := spec.Resize(q, back...); e != api.OK || !spec.Same(r, p) {
			t.Fatalf("Resize(%v, %v): %v %d", q, back, r, e)
		}
	})
	if done < 1000 {
		t.Errorf("%d alone", done)
	}
}

// What is handed in is neither changed nor kept, its spare room included; what is answered is new memory.
func TestP5_4NewMemory(t *testing.T) {
	room := make([]api.Container, 0, 8)
	room = append(room, three().Containers...)
	spare := room[:8]
	spare[3] = box("spare", vec(1, 1, 1), none)
	p := three()
	p.Containers = room
	l := append(make([]api.Change, 0, 4), to("b", vec(1, 1, 0), vec(1, 0, 0)))
	before := slices.Clone(spare)
	for _, x := range [][]api.Change{l, append(slices.Clone(l), to("z", none, none)), append(slices.Clone(l), l[0])} {
		spec.Resize(p, x...)
	}
	q, e := spec.Resize(p, l...)
	if e != api.OK || !slices.Equal(spare, before) || l[0] != to("b", vec(1, 1, 0), vec(1, 0, 0)) || l[:2][1] != (api.Change{}) {
		t.Fatalf("%v %d, %v", q, e, spare)
	}
	all := q.Containers[:cap(q.Containers)]
	for i := range all {
		all[i] = box("x", none, none)
	}
	if !slices.Equal(spare, before) {
		t.Errorf("shared: %v", spare)
	}
	again, _ := spec.Resize(p, l...)
	if at, ok := spec.Find(again, "b"); at != 1 || !ok || again.Containers[1].Requests != vec(1, 1, 0) {
		t.Errorf("kept: %v", again)
	}
	changed, restarts := spec.Changed(p, again), spec.Restarts(p, again)
	for i := range changed {
		changed[i] = [3]bool{true, true, true}
	}
	for i := range restarts {
		restarts[i] = "x"
	}
	if l := spec.Changed(p, again); l[0] != [3]bool{} || !slices.Equal(spec.Restarts(p, again), []string{"b"}) || !slices.Equal(spare, before) {
		t.Errorf("kept: %v", l)
	}
}
