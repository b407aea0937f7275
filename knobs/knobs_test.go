package knobs_test

import (
	"fmt"
	"math"
	"math/big"
	"slices"
	"strconv"
	"strings"
	"testing"

	"berthing/api"
	"berthing/knobs"
	"berthing/spec"
)

const (
	mostCPU   = 1 << 40
	mostBytes = 1 << 50
	page      = 1 << 21
	bound     = 1 << 53
	unlimited = 1 << 62
	least     = math.MinInt
	most      = math.MaxInt
)

var (
	none    = api.Vector{}
	noKnobs = api.Knobs{}
)

func vec(cpu, memory, huge int) api.Vector {
	return api.Vector{CPU: cpu, Memory: memory, Huge: huge}
}

func box(name string, requests, limits api.Vector) api.Container {
	return api.Container{Name: name, Requests: requests, Limits: limits}
}

// pod of containers, each with what is told of its own, named by their places.
func pod(l ...api.Container) api.Pod {
	p := api.Pod{Name: "p"}
	for i, c := range l {
		c.Name = "c" + strconv.Itoa(i)
		p.Containers = append(p.Containers, c)
	}
	return p
}

// of: n containers, each with these.
func of(n int, requests, limits api.Vector) api.Pod {
	return pod(slices.Repeat([]api.Container{box("", requests, limits)}, n)...)
}

// list of the knobs' numbers.
func list(k api.Knobs) [5]int {
	return [5]int{k.CPUMax, k.CPUWeight, k.MemMin, k.MemMax, k.HugeMax}
}

func knob(cpuMax, cpuWeight, memMin, memMax, hugeMax int) api.Knobs {
	return api.Knobs{CPUMax: cpuMax, CPUWeight: cpuWeight, MemMin: memMin, MemMax: memMax, HugeMax: hugeMax}
}

// weight is the document's words, said again in numbers that never wrap round.
func weight(milli int) int {
	shares := big.NewInt(int64(max(milli, 0)))
	shares.Mul(shares, big.NewInt(1024)).Div(shares, big.NewInt(1000))
	if shares.Cmp(big.NewInt(2)) < 0 {
		shares.SetInt64(2)
	}
	if shares.Cmp(big.NewInt(262144)) > 0 {
		shares.SetInt64(262144)
	}
	shares.Sub(shares, big.NewInt(2)).Mul(shares, big.NewInt(9999)).Div(shares, big.NewInt(262142))
	return 1 + int(shares.Int64())
}

// eachWeight goes over thousandths, rising: all from below 0 to where the weight is the most and beyond, and on both sides of 0 those about each power of two, and a third above, which times 1024 wrap round to great numbers.
func eachWeight(f func(milli int)) {
	f(least)
	f(least + 1)
	for power := 62; power >= 19; power-- {
		f(-1<<power - 1<<power/3)
		for beside := -2; beside <= 2; beside++ {
			f(-1<<power + beside)
		}
	}
	for n := -2000; n <= 300000; n++ {
		f(n)
	}
	for power := 19; power <= 62; power++ {
		for beside := -2; beside <= 2; beside++ {
			f(1<<power + beside)
		}
		f(1<<power + 1<<power/3)
	}
	f(most - 1)
	f(most)
}

func TestP6_1Weight(t *testing.T) {
	for milli, want := range map[int]int{
		// Less than 0, and 0.
		least: 1, least + 1: 1, -1<<53 - 1: 1, -256000: 1, -1000: 1, -1: 1, 0: 1,
		// The shares are 2 up to 2 thousandths, 3 from 3 on; 28 at 28, 29 at 29.
		1: 1, 2: 1, 3: 1, 28: 1, 29: 2, 54: 3, 55: 3, 100: 4,
		500: 20, 999: 39, 1000: 39, 1001: 40, 2000: 79, 3000: 118, 4000: 157, 128000: 5000, 64000: 2500,
		// The shares reach 262144 at 256000: one less, and one more.
		255998: 9999, 255999: 9999, 256000: 10000, 256001: 10000, 256002: 10000, 300000: 10000, 512000: 10000,
		mostCPU: 10000, 1 << 53: 10000, 1<<53 + 1: 10000, 1 << 54: 10000, 1<<54 + 1: 10000, 1 << 60: 10000, unlimited: 10000, most - 1: 10000, most: 10000,
	} {
		if w := knobs.Weight(milli); w != want {
			t.Errorf("Weight(%d): %d, want %d", milli, w, want)
		}
	}
}

func TestP6_1EachWeight(t *testing.T) {
	eachWeight(func(milli int) {
		if w := knobs.Weight(milli); w != weight(milli) {
			t.Fatalf("Weight(%d): %d, want %d", milli, w, weight(milli))
		}
	})
}

func TestP6_1Container(t *testing.T) {
	restarts := box("a", vec(1000, 10, 0), vec(2000, 20, 0))
	restarts.Restart = [3]bool{true, true, true}
	for i, x := range []struct {
		c api.Container
		k api.Knobs
	}{
		// No two numbers alike.
		{box("a", vec(1000, 7, page), vec(2000, 11, page)), knob(2000, 39, 7, 11, page)},
		{restarts, knob(2000, 39, 10, 20, 0)},
		// Limits of 0: of both, of CPU, of Memory; Huge isn't Unlimited at 0.
		{box("a", none, none), knob(unlimited, 1, 0, unlimited, 0)},
		{box("a", vec(3000, 5, 0), none), knob(unlimited, 118, 5, unlimited, 0)},
		{box("a", vec(1000, 7, 0), vec(0, 11, 0)), knob(unlimited, 39, 7, 11, 0)},
		{box("a", vec(1000, 7, 0), vec(1000, 0, 0)), knob(1000, 39, 7, unlimited, 0)},
		{box("a", vec(0, 0, page), vec(0, 0, page)), knob(unlimited, 1, 0, unlimited, page)},
		// Requests of 0, and as great as the Limits.
		{box("a", none, vec(2000, 11, 0)), knob(2000, 1, 0, 11, 0)},
		{box("a", vec(1, 1, 0), vec(1, 1, 0)), knob(1, 1, 1, 1, 0)},
		// The most that is right of each.
		{box("a", vec(mostCPU, mostBytes, mostBytes), vec(mostCPU, mostBytes, mostBytes)), knob(mostCPU, 10000, mostBytes, mostBytes, mostBytes)},
		{box("a", vec(mostCPU, mostBytes, mostBytes), vec(0, 0, mostBytes)), knob(unlimited, 10000, mostBytes, unlimited, mostBytes)},
		{box("a", vec(255999, 1, 0), vec(256000, 2, 0)), knob(256000, 9999, 1, 2, 0)}, {box("a", vec(256000, 1, 0), vec(256001, 2, 0)), knob(256001, 10000, 1, 2, 0)},
		// Such that aren't right: the name, a Limit below the Request, Huge not alike, vectors that aren't right.
		{api.Container{}, noKnobs}, {box("", vec(1, 1, 0), vec(1, 1, 0)), noKnobs}, {box("A", vec(1, 1, 0), vec(1, 1, 0)), noKnobs}, {box("-a", none, none), noKnobs}, {box(strings.Repeat("a", 16), none, none), knob(unlimited, 1, 0, unlimited, 0)}, {box(strings.Repeat("a", 17), none, none), noKnobs},
		{box("a", vec(2, 1, 0), vec(1, 1, 0)), noKnobs}, {box("a", vec(1, 2, 0), vec(1, 1, 0)), noKnobs}, {box("a", vec(1, 1, page), vec(1, 1, 0)), noKnobs}, {box("a", vec(1, 1, 0), vec(1, 1, page)), noKnobs}, {box("a", vec(1, 1, 1), vec(1, 1, 1)), noKnobs},
		{box("a", vec(-1, 0, 0), none), noKnobs}, {box("a", vec(0, -1, 0), none), noKnobs}, {box("a", none, vec(-1, 0, 0)), noKnobs}, {box("a", none, vec(0, -1, 0)), noKnobs}, {box("a", vec(0, 0, -page), vec(0, 0, -page)), noKnobs},
		{box("a", none, vec(mostCPU+1, 0, 0)), noKnobs}, {box("a", none, vec(0, mostBytes+1, 0)), noKnobs}, {box("a", none, vec(unlimited, unlimited, 0)), noKnobs}, {box("a", vec(most, most, most), vec(most, most, most)), noKnobs}, {box("a", vec(least, least, least), vec(least, least, least)), noKnobs},
	} {
		if k := knobs.Container(x.c); k != x.k {
			t.Errorf("%d: Container(%v): %v, want %v", i, x.c, k, x.k)
		}
	}
}

func TestP6_1Pod(t *testing.T) {
	limited, noCPU, noMemory := box("", vec(1000, 7, page), vec(2000, 11, page)), box("", vec(1000, 7, page), vec(0, 11, page)), box("", vec(1000, 7, page), vec(2000, 0, page))
	for i, x := range []struct {
		p api.Pod
		k api.Knobs
	}{
		// One container: its own.
		{pod(limited), knob(2000, 39, 7, 11, page)}, {pod(noCPU), knob(unlimited, 39, 7, 11, page)}, {pod(noMemory), knob(2000, 39, 7, unlimited, page)}, {of(1, none, none), knob(unlimited, 1, 0, unlimited, 0)},
		// Several: a weight of all thousandths together isn't the sum of the weights.
		{pod(limited, limited), knob(4000, 79, 14, 22, 2*page)}, {pod(limited, limited, limited), knob(6000, 118, 21, 33, 3*page)},
		{pod(box("", vec(100, 10, 2*page), vec(200, 20, 2*page)), box("", vec(900, 0, 0), vec(900, 0, 0))), knob(1100, 39, 10, unlimited, 2*page)},
		{of(6, vec(1, 2, page), vec(3, 4, page)), knob(18, 1, 12, 24, 6*page)}, {of(6, none, none), knob(unlimited, 1, 0, unlimited, 0)},
		{of(2, vec(14, 0, 0), vec(20, 1, 0)), knob(40, 1, 0, 2, 0)}, {pod(box("", vec(14, 0, 0), none), box("", vec(15, 0, 0), none)), knob(unlimited, 2, 0, unlimited, 0)},
		{of(2, vec(128000, 0, 0), vec(128000, 1, 0)), knob(256000, 10000, 0, 2, 0)}, {of(3, vec(128000, 0, 0), none), knob(unlimited, 10000, 0, unlimited, 0)},
		// One Limit of 0 is enough, whichever one.
		{pod(noCPU, limited, limited), knob(unlimited, 118, 21, 33, 3*page)}, {pod(limited, noCPU, limited), knob(unlimited, 118, 21, 33, 3*page)}, {pod(limited, limited, noCPU), knob(unlimited, 118, 21, 33, 3*page)},
		{pod(noMemory, limited, limited), knob(6000, 118, 21, unlimited, 3*page)}, {pod(limited, noMemory, limited), knob(6000, 118, 21, unlimited, 3*page)}, {pod(limited, limited, noMemory), knob(6000, 118, 21, unlimited, 3*page)},
		{pod(noCPU, noMemory), knob(unlimited, 79, 14, unlimited, 2*page)}, {pod(noMemory, noCPU, noMemory), knob(unlimited, 118, 21, unlimited, 3*page)}, {pod(noCPU, noCPU), knob(unlimited, 79, 14, 22, 2*page)},
		// The most that is right.
		{of(2, vec(mostCPU/2, mostBytes/2, mostBytes/2), vec(mostCPU/2, mostBytes/2, mostBytes/2)), knob(mostCPU, 10000, mostBytes, mostBytes, mostBytes)},
		{pod(box("", none, vec(mostCPU, 0, 0)), box("", none, vec(0, mostBytes, 0)), box("", vec(mostCPU, 0, 0), none), box("", vec(0, mostBytes, 0), none), box("", vec(0, 0, mostBytes), vec(0, 0, mostBytes)), box("", none, none)), knob(unlimited, 10000, mostBytes, unlimited, mostBytes)},
		// Such that aren't right: without containers, too many, a wrong one at either place, sums that aren't.
		{api.Pod{}, noKnobs}, {pod(), noKnobs}, {api.Pod{Name: "p", Containers: []api.Container{}}, noKnobs}, {of(7, none, none), noKnobs}, {of(1000, vec(1, 1, 0), vec(1, 1, 0)), noKnobs},
		{pod(box("", vec(2, 1, 0), vec(1, 1, 0)), limited), noKnobs}, {pod(limited, box("", vec(2, 1, 0), vec(1, 1, 0))), noKnobs}, {of(1, vec(least, least, least), vec(least, least, least)), noKnobs}, {of(2, vec(most, most, most), vec(most, most, most)), noKnobs},
		{of(2, vec(mostCPU/2+1, 0, 0), none), noKnobs}, {of(2, none, vec(mostCPU/2+1, 0, 0)), noKnobs}, {of(4, vec(0, mostBytes/4+1, 0), none), noKnobs}, {of(4, none, vec(0, mostBytes/4+1, 0)), noKnobs}, {of(4, vec(0, 0, mostBytes/4+page), vec(0, 0, mostBytes/4+page)), noKnobs},
		{api.Pod{Name: "p", Containers: []api.Container{box("a", none, none), box("a", none, none)}}, noKnobs}, {api.Pod{Name: "", Containers: pod(limited).Containers}, noKnobs}, {api.Pod{Name: "p", Priority: 1001, Containers: pod(limited).Containers}, noKnobs}, {api.Pod{Name: "p", Policy: -1, Containers: pod(limited).Containers}, noKnobs},
		// Priority and policy are no matter, while they are right.
		{api.Pod{Name: "q", Priority: -1000, Policy: 2, Containers: pod(limited).Containers}, knob(2000, 39, 7, 11, page)},
	} {
		before := slices.Clone(x.p.Containers)
		if k := knobs.Pod(x.p); k != x.k {
			t.Errorf("%d: Pod(%v): %v, want %v", i, x.p, k, x.k)
		}
		if !slices.Equal(x.p.Containers, before) {
			t.Errorf("%d: changed: %v", i, x.p)
		}
	}
}

func TestP6_1Root(t *testing.T) {
	for range 2 {
		if k := knobs.Root(); k != knob(unlimited, 100, unlimited, unlimited, unlimited) {
			t.Errorf("%v", k)
		}
	}
}

// vectors: edges of each resource, each with each, right ones and wrong ones.
func vectors() []api.Vector {
	var l []api.Vector
	for _, c := range []int{-1, 0, 1, 1000, mostCPU, mostCPU + 1} {
		for _, m := range []int{-1, 0, 1, 2, mostBytes, mostBytes + 1} {
			for _, h := range []int{-page, 0, 1, page, mostBytes} {
				l = append(l, vec(c, m, h))
			}
		}
	}
	return l
}

// limits of a container, and knobs of one, in the document's words, said again.

func limit(n int) int {
	if n == 0 {
		return unlimited
	}
	return n
}

func container(c api.Container) api.Knobs {
	if !spec.Container(c) {
		return noKnobs
	}
	return knob(limit(c.Limits.CPU), weight(c.Requests.CPU), c.Requests.Memory, limit(c.Limits.Memory), c.Limits.Huge)
}

// podOf says the words of a pod again, resource by resource.
func podOf(p api.Pod) api.Knobs {
	if !spec.Pod(p) {
		return noKnobs
	}
	sum := func(part func(c api.Container) int) int {
		n := 0
		for _, c := range p.Containers {
			n += part(c)
		}
		return n
	}
	lacks := func(part func(c api.Container) int) bool {
		return slices.ContainsFunc(p.Containers, func(c api.Container) bool { return part(c) == 0 })
	}
	limits := func(part func(c api.Container) int) int {
		if lacks(part) {
			return unlimited
		}
		return sum(part)
	}
	return knob(limits(func(c api.Container) int { return c.Limits.CPU }), weight(sum(func(c api.Container) int { return c.Requests.CPU })),
		sum(func(c api.Container) int { return c.Requests.Memory }), limits(func(c api.Container) int { return c.Limits.Memory }), sum(func(c api.Container) int { return c.Limits.Huge }))
}

// Each Requests with each Limits: a container's knobs, and those of a pod of it alone.
func TestP6_1EachWithEach(t *testing.T) {
	rights := 0
	for _, a := range vectors() {
		for _, b := range vectors() {
			c := box("a", a, b)
			want := container(c)
			if k := knobs.Container(c); k != want {
				t.Fatalf("Container(%v): %v, want %v", c, k, want)
			}
			if k := knobs.Pod(pod(c)); k != want {
				t.Fatalf("Pod of %v: %v, want %v", c, k, want)
			}
			if want != noKnobs {
				rights++
			}
		}
	}
	if rights < 100 {
		t.Errorf("%d alone", rights)
	}
}

// containers that are right, of edges; some of them fit into one pod beside others, some don't.
func containers() []api.Container {
	var l []api.Container
	for _, cpu := range [][2]int{{0, 0}, {0, 1}, {14, 0}, {1000, 0}, {1000, 1000}, {15, 3000}, {128000, 0}, {mostCPU / 2, mostCPU / 2}, {0, mostCPU}} {
		for _, memory := range [][2]int{{0, 0}, {0, 7}, {5, 0}, {5, 5}, {5, 8}, {mostBytes / 2, 0}, {0, mostBytes / 2}, {mostBytes / 2, mostBytes / 2}} {
			for _, huge := range []int{0, page, mostBytes / 4} {
				l = append(l, box("a", vec(cpu[0], memory[0], huge), vec(cpu[1], memory[1], huge)))
			}
		}
	}
	return l
}

// eachPod goes over pods of containers: of one and of each two, and some of three to six.
func eachPod(f func(p api.Pod)) {
	all := containers()
	for i, a := range all {
		f(pod(a))
		for j, b := range all {
			f(pod(a, b))
			l := []api.Container{a, b}
			for n := 3; n <= 7; n++ {
				l = append(l, all[(7*i+5*j*n+n)%len(all)])
				f(pod(l...))
			}
		}
	}
}

func TestP6_1EachPod(t *testing.T) {
	var seen [8]int
	eachPod(func(p api.Pod) {
		want := podOf(p)
		if k := knobs.Pod(p); k != want {
			t.Fatalf("Pod(%v): %v, want %v", p, k, want)
		}
		if want != noKnobs {
			seen[len(p.Containers)]++
		}
	})
	for n := 1; n <= 6; n++ {
		if seen[n] < 100 {
			t.Errorf("of %d: %d right ones alone", n, seen[n])
		}
	}
	if seen[7] != 0 {
		t.Errorf("%v", seen)
	}
}

// edges of what stands in a file.
func edges() []int {
	return []int{least, -1, 0, 1, 2, 9999, 10000, 10001, bound - 1, bound, bound + 1, unlimited - 1, unlimited, unlimited + 1, most}
}

func TestP6_2At(t *testing.T) {
	for _, k := range []api.Knobs{noKnobs, knob(1, 2, 3, 4, 5), knob(-1, least, most, unlimited, 0), knobs.Root()} {
		for file, want := range list(k) {
			if n := knobs.At(k, file); n != want {
				t.Errorf("At(%v, %d): %d", k, file, n)
			}
		}
		for _, file := range []int{least, least + 1, -1 << 32, -5, -1, 5, 6, 7, 255, 256, 260, 1 << 32, 1<<32 + 1, most} {
			if n := knobs.At(k, file); n != 0 {
				t.Errorf("At(%v, %d): %d", k, file, n)
			}
		}
	}
	// By the names that the files have.
	k := knob(1, 2, 3, 4, 5)
	for file, want := range map[int]int{api.CPUMax: 1, api.CPUWeight: 2, api.MemMin: 3, api.MemMax: 4, api.HugeMax: 5} {
		if n := knobs.At(k, file); n != want {
			t.Errorf("At(%v, %d): %d", k, file, n)
		}
	}
}

func TestP6_2With(t *testing.T) {
	for _, k := range []api.Knobs{noKnobs, knob(1, 2, 3, 4, 5), knob(-1, least, most, unlimited, 0), knobs.Root()} {
		for _, n := range edges() {
			for file := range 5 {
				want := list(k)
				want[file] = n
				was := k
				if got := knobs.With(k, file, n); list(got) != want || k != was || knobs.At(got, file) != n {
					t.Errorf("With(%v, %d, %d): %v", k, file, n, got)
				}
			}
			for _, file := range []int{least, -1 << 32, -5, -1, 5, 6, 255, 256, 1 << 32, 1<<32 + 1, most} {
				if got := knobs.With(k, file, n); got != k {
					t.Errorf("With(%v, %d, %d): %v", k, file, n, got)
				}
			}
		}
	}
	k := noKnobs
	for _, file := range []int{api.CPUMax, api.CPUWeight, api.MemMin, api.MemMax, api.HugeMax} {
		k = knobs.With(k, file, file+11)
	}
	if k != knob(11, 12, 13, 14, 15) {
		t.Errorf("%v", k)
	}
}

func TestP6_2Right(t *testing.T) {
	good := knob(10, 20, 30, 40, 50)
	for i, x := range []struct {
		k  api.Knobs
		ok bool
	}{
		{good, true}, {noKnobs, false}, {knob(0, 1, 0, 0, 0), true}, {knobs.Root(), false},
		// Each number at its ends, and one beside.
		{knob(-1, 20, 30, 40, 50), false}, {knob(0, 20, 30, 40, 50), true}, {knob(bound-1, 20, 30, 40, 50), true}, {knob(bound, 20, 30, 40, 50), true}, {knob(bound+1, 20, 30, 40, 50), false},
		{knob(10, 0, 30, 40, 50), false}, {knob(10, 1, 30, 40, 50), true}, {knob(10, 9999, 30, 40, 50), true}, {knob(10, 10000, 30, 40, 50), true}, {knob(10, 10001, 30, 40, 50), false}, {knob(10, -1, 30, 40, 50), false},
		{knob(10, 20, -1, 40, 50), false}, {knob(10, 20, 0, 40, 50), true}, {knob(10, 20, bound, bound, 50), true}, {knob(10, 20, bound+1, unlimited, 50), false}, {knob(10, 20, bound, unlimited, 50), true},
		{knob(10, 20, 0, -1, 50), false}, {knob(10, 20, -1, -1, 50), false}, {knob(10, 20, 0, 0, 50), true}, {knob(10, 20, 30, bound, 50), true}, {knob(10, 20, 30, bound+1, 50), false},
		{knob(10, 20, 30, 40, -1), false}, {knob(10, 20, 30, 40, 0), true}, {knob(10, 20, 30, 40, bound), true}, {knob(10, 20, 30, 40, bound+1), false},
		// Unlimited, one less and one more: right of CPUMax and MemMax alone.
		{knob(unlimited, 20, 30, 40, 50), true}, {knob(unlimited-1, 20, 30, 40, 50), false}, {knob(unlimited+1, 20, 30, 40, 50), false}, {knob(10, 20, 30, unlimited, 50), true}, {knob(10, 20, 30, unlimited-1, 50), false}, {knob(10, 20, 30, unlimited+1, 50), false}, {knob(unlimited, 20, 30, unlimited, 50), true},
		{knob(10, unlimited, 30, 40, 50), false}, {knob(10, 20, unlimited, unlimited, 50), false}, {knob(10, 20, 30, 40, unlimited), false},
		// MemMin: one less than MemMax, equal, one above.
		{knob(10, 20, 39, 40, 50), true}, {knob(10, 20, 40, 40, 50), true}, {knob(10, 20, 41, 40, 50), false}, {knob(10, 20, 1, 0, 50), false}, {knob(10, 20, bound, bound-1, 50), false}, {knob(10, 20, bound, 0, 50), false},
		// The others aren't held against one another.
		{knob(0, 10000, 0, 0, bound), true},
		{knob(least, least, least, least, least), false}, {knob(most, most, most, most, most), false}, {knob(most, 20, 30, 40, 50), false}, {knob(10, 20, least, 40, 50), false}, {knob(10, 20, 30, most, 50), false},
	} {
		if got := knobs.Right(x.k); got != x.ok {
			t.Errorf("%d: Right(%v): %v", i, x.k, got)
		}
	}
}

// right is the document's words, said again.
func right(k api.Knobs) bool {
	plain := func(n int) bool { return 0 <= n && n <= bound }
	return (plain(k.CPUMax) || k.CPUMax == unlimited) && (plain(k.MemMax) || k.MemMax == unlimited) && 1 <= k.CPUWeight && k.CPUWeight <= 10000 && plain(k.MemMin) && plain(k.HugeMax) && !(k.MemMin > k.MemMax)
}

// eachKnobs goes over knobs of edges, each in each file.
func eachKnobs(edges []int, f func(k api.Knobs)) {
	for _, a := range edges {
		for _, b := range edges {
			for _, c := range edges {
				for _, d := range edges {
					for _, e := range edges {
						f(knob(a, b, c, d, e))
					}
				}
			}
		}
	}
}

func TestP6_2EachRight(t *testing.T) {
	eachKnobs(edges(), func(k api.Knobs) {
		if got := knobs.Right(k); got != right(k) {
			t.Fatalf("Right(%v): %v", k, got)
		}
	})
}

func TestP6_2Text(t *testing.T) {
	for k, want := range map[api.Knobs]string{
		noKnobs:                   "0 0 0 0 0",
		knob(1, 2, 3, 4, 5):       "1 2 3 4 5",
		knob(10, 200, 3000, 0, 7): "10 200 3000 0 7",
		knobs.Root():              "max 100 max max max",
		// Unlimited in each place.
		knob(unlimited, 2, 3, 4, 5): "max 2 3 4 5", knob(1, unlimited, 3, 4, 5): "1 max 3 4 5", knob(1, 2, unlimited, 4, 5): "1 2 max 4 5", knob(1, 2, 3, unlimited, 5): "1 2 3 max 5", knob(1, 2, 3, 4, unlimited): "1 2 3 4 max",
		knob(unlimited, unlimited, unlimited, unlimited, unlimited): "max max max max max",
		// Beside it.
		knob(unlimited-1, unlimited+1, -unlimited, 0, 0): "4611686018427387903 4611686018427387905 -4611686018427387904 0 0",
		// Below 0, the least and the greatest.
		knob(-1, -10, -1024, 0, -9):             "-1 -10 -1024 0 -9",
		knob(least, most, least+1, most-1, -1):  "-9223372036854775808 9223372036854775807 -9223372036854775807 9223372036854775806 -1",
		knob(least, least, least, least, least): "-9223372036854775808 -9223372036854775808 -9223372036854775808 -9223372036854775808 -9223372036854775808",
		knob(most, most, most, most, most):      "9223372036854775807 9223372036854775807 9223372036854775807 9223372036854775807 9223372036854775807",
	} {
		if s := knobs.Text(k); s != want {
			t.Errorf("Text(%v): %q, want %q", k, s, want)
		}
	}
}

func TestP6_2EachText(t *testing.T) {
	eachKnobs([]int{least, -1, 0, 10, unlimited - 1, unlimited, unlimited + 1, most}, func(k api.Knobs) {
		words := strings.Fields(fmt.Sprint(k.CPUMax, k.CPUWeight, k.MemMin, k.MemMax, k.HugeMax))
		for i, word := range words {
			if word == "4611686018427387904" {
				words[i] = "max"
			}
		}
		want := strings.Join(words, " ")
		if s := knobs.Text(k); s != want {
			t.Fatalf("Text(%v): %q, want %q", k, s, want)
		}
	})
}

func TestP6_3Knobs(t *testing.T) {
	var seen [7]int
	eachPod(func(p api.Pod) {
		if !spec.Pod(p) {
			return
		}
		seen[len(p.Containers)]++
		above := knobs.Pod(p)
		if !knobs.Right(above) {
			t.Fatalf("Pod(%v): %v", p, above)
		}
		sum, endless := 0, false
		for _, c := range p.Containers {
			own := knobs.Container(c)
			if !knobs.Right(own) || own.CPUMax > above.CPUMax || own.MemMin > above.MemMin || own.MemMax > above.MemMax || own.HugeMax > above.HugeMax {
				t.Fatalf("Container(%v): %v, of %v", c, own, above)
			}
			// Held, for two that are Unlimited don't fit an int together.
			sum += min(own.CPUMax, unlimited/8)
			endless = endless || own.CPUMax == unlimited
		}
		// Unlimited is no less than whatever sum.
		if above.CPUMax < sum || endless && above.CPUMax != unlimited {
			t.Fatalf("Pod(%v): %v", p, above)
		}
	})
	for n := 1; n <= 6; n++ {
		if seen[n] < 100 {
			t.Errorf("of %d: %d alone", n, seen[n])
		}
	}
}

func TestP6_3Weight(t *testing.T) {
	from, last := least, 1
	eachWeight(func(milli int) {
		w := knobs.Weight(milli)
		if milli < from || w < last || w > 10000 {
			t.Fatalf("Weight(%d): %d; of %d: %d", milli, w, from, last)
		}
		from, last = milli, w
	})
}
