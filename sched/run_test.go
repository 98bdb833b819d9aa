package sched_test

import (
	"fmt"
	"math/rand"
	"slices"
	"testing"

	"downtilt/api"
	"downtilt/sched"
)

// batch is bits that wait, and the slot in which they arrived.
type batch struct{ slot, bits int }

// slowRun follows the chapter word by word, with all bits in batches.
type slowRun struct {
	s       api.SchedSite
	l       []api.SchedBearer
	waiting [][]batch
	sent    []int
	reports []int
	blocks  []int
}

func newSlowRun(s api.SchedSite, l []api.SchedBearer) *slowRun {
	return &slowRun{s: s, l: l, waiting: make([][]batch, len(l)), sent: make([]int, len(l))}
}

func (r *slowRun) left(i int) int {
	sum := 0
	for _, b := range r.waiting[i] {
		sum += b.bits
	}
	return sum
}

func (r *slowRun) rate(i int) int {
	return r.s.Table[r.reports[i]]
}

// taken is the bits that the blocks of the slot take.
func (r *slowRun) taken(i int) int {
	return min(r.left(i), r.blocks[i]*r.rate(i))
}

func (r *slowRun) isCandidate(i int) bool {
	power, others := r.l[i].Power, 0
	for j, n := range r.blocks {
		power += n * r.l[j].Power
		if n > 0 && j != i {
			others++
		}
	}
	return r.rate(i) > 0 && r.left(i) > r.taken(i) && power <= r.s.Power && (r.blocks[i] > 0 || others < r.s.Control)
}

// candidates are in the order in which they get a block.
func (r *slowRun) candidates() []int {
	var l []int
	for i := range r.l {
		if r.isCandidate(i) {
			l = append(l, i)
		}
	}
	slices.SortStableFunc(l, func(i, j int) int {
		return ratio(r.sent[i]+r.taken(i), r.l[i].Weight).Cmp(ratio(r.sent[j]+r.taken(j), r.l[j].Weight))
	})
	return l
}

// give tells the blocks of a slot.
func (r *slowRun) give(at int, x api.SchedSlot) {
	r.reports, r.blocks = x.Reports, make([]int, len(r.l))
	for i, bits := range x.Arrivals {
		r.waiting[i] = append(r.waiting[i], batch{at, bits})
	}
	for i, y := range r.l {
		if rate := r.rate(i); rate > 0 {
			r.blocks[i] = min(slowNeed(r.s, y).Blocks, up(r.left(i), rate))
		}
	}
	for sumOf(r.blocks) < r.s.Blocks {
		l := r.candidates()
		if len(l) == 0 {
			break
		}
		r.blocks[l[0]]++
	}
}

// send takes the oldest bits off.
func (r *slowRun) send() {
	for i := range r.l {
		bits := r.taken(i)
		r.sent[i] += bits
		for bits > 0 {
			first := &r.waiting[i][0]
			n := min(bits, first.bits)
			first.bits -= n
			bits -= n
			if first.bits == 0 {
				r.waiting[i] = r.waiting[i][1:]
			}
		}
	}
}

func (r *slowRun) isLate(i, at int) bool {
	return r.l[i].Kind != api.SchedBest && slices.ContainsFunc(r.waiting[i], func(b batch) bool {
		return b.bits > 0 && b.slot <= at+1-r.l[i].Delay
	})
}

// slowly is what Run and FirstLate should return.
func slowly(s api.SchedSite, l []api.SchedBearer, slots []api.SchedSlot) (api.SchedTrace, [2]int, api.Errno) {
	r := newSlowRun(s, l)
	trace := api.SchedTrace{Blocks: make([][]int, len(slots)), Left: make([]int, len(l))}
	late, e := [2]int{}, api.ErrNone
	for at, x := range slots {
		r.give(at, x)
		r.send()
		trace.Blocks[at] = r.blocks
		for i := range l {
			if e != api.OK && r.isLate(i, at) {
				late, e = [2]int{at, i}, api.OK
			}
		}
	}
	for i := range l {
		trace.Left[i] = r.left(i)
	}
	trace.Sent = r.sent
	return trace, late, e
}

// TestRunExample is the example 4 of the chapter.
func TestRunExample(t *testing.T) {
	l := []api.SchedBearer{exampleSure(), exampleBest()}
	trace, e := sched.Run(exampleSite(), l, []api.SchedSlot{slot(1, 3, 100, 1000)})
	expect(t, "Run", trace, e, api.SchedTrace{Blocks: [][]int{{8, 2}}, Sent: []int{80, 80}, Left: []int{20, 920}}, api.OK)
	late, e := sched.FirstLate(exampleSite(), l, []api.SchedSlot{slot(1, 3, 100, 1000)})
	expect(t, "FirstLate", late, e, [2]int{}, api.ErrNone)
}

func TestFewSlots(t *testing.T) {
	trace, e := sched.Run(exampleSite(), nil, nil)
	expect(t, "Run of nothing", trace, e, api.SchedTrace{}, api.OK)
	trace, e = sched.Run(exampleSite(), []api.SchedBearer{exampleBest()}, nil)
	expect(t, "Run without slots", trace, e, api.SchedTrace{Sent: []int{0}, Left: []int{0}}, api.OK)
	trace, e = sched.Run(exampleSite(), nil, make([]api.SchedSlot, 60))
	expect(t, "Run without bearers", trace, e, api.SchedTrace{Blocks: make([][]int, 60)}, api.OK)
	for _, slots := range [][]api.SchedSlot{nil, make([]api.SchedSlot, 60)} {
		late, e := sched.FirstLate(exampleSite(), nil, slots)
		expect(t, "FirstLate of nothing", late, e, [2]int{}, api.ErrNone)
	}
}

// TestOneSlot is of the rules by which blocks are given.
func TestOneSlot(t *testing.T) {
	type list = []api.SchedBearer
	a, b, c := best("a", 0, 10), best("b", 0, 10), best("c", 0, 10)
	heavy, dear := a, a
	heavy.Name, heavy.Weight = "h", 3
	dear.Name, dear.Power = "d", 300
	site := func(blocks, control, power int) api.SchedSite {
		return api.SchedSite{Blocks: blocks, Control: control, Power: power, Table: []int{0, 10, 20, 40}}
	}
	for _, x := range []struct {
		what   string
		s      api.SchedSite
		l      list
		slot   api.SchedSlot
		blocks []int
		left   []int
	}{
		{"in turn", site(5, 3, 1000), list{a, b}, slot(1, 1, 100, 100), []int{3, 2}, []int{70, 80}},
		{"by weight", site(8, 3, 1000), list{a, heavy}, slot(1, 1, 100, 100), []int{2, 6}, []int{80, 40}},
		{"nothing waits", site(5, 3, 1000), list{a, b}, slot(1, 1, 11, 10), []int{2, 1}, []int{0, 0}},
		{"no rate", site(5, 3, 1000), list{a, b}, slot(0, 1, 100, 100), []int{0, 5}, []int{100, 50}},
		{"no control", site(5, 1, 1000), list{a, b}, slot(1, 1, 20, 100), []int{2, 0}, []int{0, 100}},
		{"control for two", site(5, 2, 1000), list{a, b, c}, slot(1, 1, 1, 10, 100, 100), []int{1, 4, 0}, []int{0, 60, 100}},
		{"no power", site(5, 3, 30), list{a, b}, slot(1, 1, 100, 100), []int{2, 1}, []int{80, 90}},
		{"power just not", site(5, 3, 39), list{a, b}, slot(1, 1, 100, 100), []int{2, 1}, []int{80, 90}},
		{"power for the cheap one", site(9, 3, 650), list{dear, b}, slot(1, 1, 100, 100), []int{2, 5}, []int{80, 50}},
		{"the need first", site(5, 3, 1000), list{a, needing("x", api.SchedSure, 0, 4)}, slot(1, 1, 100, 100), []int{1, 4}, []int{90, 60}},
		{"not more than waits", site(5, 3, 1000), list{a, needing("x", api.SchedSure, 0, 4)}, slot(1, 1, 100, 11), []int{3, 2}, []int{70, 0}},
		{"at the rate of the report", site(5, 3, 1000), list{a, needing("x", api.SchedEmergency, 0, 4)}, slot(1, 3, 100, 81), []int{2, 3}, []int{80, 0}},
		{"more than the need", site(10, 3, 1000), list{needing("x", api.SchedSure, 0, 4)}, slot(1, 100), []int{10}, []int{0}},
		{"the need uses control", site(5, 1, 1000), list{a, needing("x", api.SchedSure, 0, 1)}, slot(1, 1, 100, 10), []int{0, 1}, []int{100, 0}},
		{"no need uses none", site(5, 1, 1000), list{a, needing("x", api.SchedSure, 0, 1)}, slot(1, 1, 100, 0), []int{5, 0}, []int{50, 0}},
		{"a need without a rate", site(5, 1, 1000), list{a, needing("x", api.SchedSure, 0, 1)}, slot(1, 0, 100, 10), []int{5, 0}, []int{50, 10}},
		{"the need uses power", site(5, 3, 50), list{a, needing("x", api.SchedSure, 0, 4)}, slot(1, 1, 100, 40), []int{1, 4}, []int{90, 0}},
	} {
		trace, e := sched.Run(x.s, x.l, []api.SchedSlot{x.slot})
		sent := make([]int, len(x.l))
		for i, left := range x.left {
			sent[i] = x.slot.Arrivals[i] - left
		}
		expect(t, x.what, trace, e, api.SchedTrace{Blocks: [][]int{x.blocks}, Sent: sent, Left: x.left}, api.OK)
	}
}

// TestMoreSlots is of what stays from slot to slot: who had more bits in an earlier slot waits in a later one.
func TestMoreSlots(t *testing.T) {
	s := exampleSite()
	s.Blocks = 2
	l := []api.SchedBearer{best("a", 0, 10), best("b", 0, 10)}
	slots := []api.SchedSlot{slot(3, 0, 80, 100), slot(1, 1, 100, 0), slot(1, 2, 0, 0), slot(1, 2, 0, 0), slot(1, 1, 0, 0)}
	trace, e := sched.Run(s, l, slots)
	// 80, 0; 80, 20; 80, 60; 90, 80; 100, 90
	want := api.SchedTrace{Blocks: [][]int{{2, 0}, {0, 2}, {0, 2}, {1, 1}, {1, 1}}, Sent: []int{100, 90}, Left: []int{80, 10}}
	expect(t, "Run", trace, e, want, api.OK)
}

// TestLate is of the first slots of late bits.
func TestLate(t *testing.T) {
	for delay := 1; delay <= 5; delay++ {
		x := guaranteed("x", api.SchedSure, 10, 1, 10, 0, delay)
		l := []api.SchedBearer{exampleBest(), x}
		slots := slices.Repeat([]api.SchedSlot{slot(0, 0, 50, 0)}, 8)
		slots[2] = slot(0, 0, 0, 1)
		late, e := sched.FirstLate(exampleSite(), l, slots)
		expect(t, fmt.Sprint("FirstLate, delay ", delay), late, e, [2]int{1 + delay, 1}, api.OK)
		late, e = sched.FirstLate(exampleSite(), l, slots[:2+delay])
		expect(t, fmt.Sprint("FirstLate, ended, delay ", delay), late, e, [2]int{1 + delay, 1}, api.OK)
		late, e = sched.FirstLate(exampleSite(), l, slots[:1+delay])
		expect(t, fmt.Sprint("FirstLate, ended before, delay ", delay), late, e, [2]int{}, api.ErrNone)
		slots[1+delay] = slot(0, 1, 0, slots[1+delay].Arrivals[1])
		late, e = sched.FirstLate(exampleSite(), l, slots)
		expect(t, fmt.Sprint("FirstLate, sent in time, delay ", delay), late, e, [2]int{}, api.ErrNone)
	}
	long := guaranteed("x", api.SchedSure, 10, 1, 10, 0, 1000)
	late, e := sched.FirstLate(exampleSite(), []api.SchedBearer{long}, slices.Repeat([]api.SchedSlot{slot(0, 1000)}, 60))
	expect(t, "FirstLate, long delay", late, e, [2]int{}, api.ErrNone)
	both := []api.SchedBearer{exampleBest(), guaranteed("x", api.SchedSure, 10, 1, 10, 0, 2), guaranteed("y", api.SchedEmergency, 10, 1, 10, 0, 1)}
	late, e = sched.FirstLate(exampleSite(), both, []api.SchedSlot{slot(0, 0, 1, 9, 9, 0), slot(0, 0, 0, 0, 0, 0)})
	expect(t, "FirstLate, the first bearer", late, e, [2]int{1, 1}, api.OK)
	late, e = sched.FirstLate(exampleSite(), both, []api.SchedSlot{slot(0, 0, 0, 9, 9, 9), slot(0, 0, 0, 0, 0, 0)})
	expect(t, "FirstLate, the first slot", late, e, [2]int{0, 2}, api.OK)
}

// TestRun compares with slowly.
func TestRun(t *testing.T) {
	r := rand.New(rand.NewSource(66))
	late, inTime := 0, 0
	for range 4000 {
		s := randomSite(r)
		l := randomBearers(r, s)
		slots := randomSlots(r, s, len(l))
		trace, window, f := slowly(s, l, slots)
		what := fmt.Sprint(" ", s, l, slots)
		got, e := sched.Run(s, l, slots)
		expect(t, "Run"+what, got, e, trace, api.OK)
		first, e := sched.FirstLate(s, l, slots)
		expect(t, "FirstLate"+what, first, e, window, f)
		if f == api.OK {
			late++
		} else if len(slots) > 0 && len(l) > 0 {
			inTime++
		}
	}
	if late < 300 || inTime < 300 {
		t.Errorf("%d runs have late bits, %d have none", late, inTime)
	}
}

// TestNoBlockIdle is P6.11.
func TestNoBlockIdle(t *testing.T) {
	r := rand.New(rand.NewSource(67))
	idle := 0
	for range 2000 {
		s := randomSite(r)
		l := randomBearers(r, s)
		slots := randomSlots(r, s, len(l))
		trace := must(sched.Run(s, l, slots))
		look := newSlowRun(s, l)
		for at, x := range slots {
			look.give(at, x)
			look.blocks = trace.Blocks[at]
			if used := sumOf(look.blocks); used > s.Blocks {
				t.Fatalf("%d blocks are given of %d", used, s.Blocks)
			} else if candidates := look.candidates(); used < s.Blocks {
				idle++
				if len(candidates) > 0 {
					t.Fatalf("%v, %v, %v: %v are candidates in the slot %d", s, l, slots, candidates, at)
				}
			}
			look.send()
		}
		for i := range l {
			arrived := 0
			for _, x := range slots {
				arrived += x.Arrivals[i]
			}
			if trace.Sent[i]+trace.Left[i] != arrived {
				t.Fatalf("%d of %d, and %d left", trace.Sent[i], arrived, trace.Left[i])
			}
		}
	}
	if idle < 1000 {
		t.Errorf("in %d slots blocks are left", idle)
	}
}

// permitted is how many bits may arrive in the next slot by the contract.
func permitted(x api.SchedBearer, arrivals []int) int {
	most := x.Burst
	for first := range arrivals {
		most = min(most, x.Burst+x.Rate*(len(arrivals)-first)-sumOf(arrivals[first:]))
	}
	return most
}

// contractSlots keep all contracts, often with no bit to spare.
func contractSlots(r *rand.Rand, s api.SchedSite, l []api.SchedBearer) []api.SchedSlot {
	arrivals := make([][]int, len(l))
	greedy, worst := r.Intn(3) == 0, r.Intn(3) == 0
	slots := make([]api.SchedSlot, r.Intn(40))
	for at := range slots {
		slots[at] = api.SchedSlot{Reports: randomList(r, len(l), len(s.Table)-1), Arrivals: randomList(r, len(l), 1000000)}
		for i, x := range l {
			if x.Kind == api.SchedBest {
				continue
			}
			bits := permitted(x, arrivals[i])
			if !greedy && r.Intn(3) > 0 {
				bits = upTo(r, bits)
			}
			arrivals[i] = append(arrivals[i], bits)
			slots[at].Arrivals[i] = bits
			slots[at].Reports[i] = x.Least
			if !worst {
				slots[at].Reports[i] += upTo(r, len(s.Table)-1-x.Least)
			}
		}
	}
	return slots
}

// TestContractIsKept is P6.8.
func TestContractIsKept(t *testing.T) {
	r := rand.New(rand.NewSource(68))
	waits := 0
	for range 4000 {
		s := randomSite(r)
		l := randomBearers(r, s)
		slots := contractSlots(r, s, l)
		for i, x := range l {
			if x.Kind == api.SchedBest {
				continue
			}
			var arrivals []int
			for _, y := range slots {
				arrivals = append(arrivals, y.Arrivals[i])
			}
			window, e := sched.Breaks(s, x, arrivals)
			expect(t, "Breaks", window, e, [2]int{}, api.ErrNone)
			if must(sched.Run(s, l, slots)).Left[i] > 0 {
				waits++
			}
		}
		late, e := sched.FirstLate(s, l, slots)
		expect(t, fmt.Sprint("FirstLate ", s, l, slots), late, e, [2]int{}, api.ErrNone)
	}
	if waits < 500 {
		t.Errorf("at the end of %d runs bits wait", waits)
	}
}
