package sched_test

import (
	"fmt"
	"math/rand"
	"testing"

	"downtilt/api"
	"downtilt/sched"
)

// TestNeedExample is the example 1 of the chapter.
func TestNeedExample(t *testing.T) {
	need, e := sched.NeedOf(exampleSite(), exampleSure())
	expect(t, "NeedOf", need, e, api.SchedNeed{Blocks: 3, Control: 1, Power: 60}, api.OK)
	for blocks, want := range map[int]int{2: 5, 3: 4, 4: 3, 5: 2, 9: 2, 10: 1} {
		delay, e := sched.DelayOf(exampleSite(), exampleSure(), blocks)
		expect(t, fmt.Sprint("DelayOf ", blocks), delay, e, want, api.OK)
	}
	delay, e := sched.DelayOf(exampleSite(), exampleSure(), 1)
	expect(t, "DelayOf one block", delay, e, 0, api.ErrNone)
}

// TestRightBearers is of bearers at the ends of what they may be.
func TestRightBearers(t *testing.T) {
	x := exampleSure()
	x.Name, x.Weight, x.Priority, x.Power = "Z-9aAzabcdef", 100, 100, 100000
	x.Least, x.Burst, x.Rate, x.Delay = 3, 1000000, 1000000, 1000
	last := x
	last.Name, last.Kind, last.Weight, last.Priority, last.Power = "z", api.SchedEmergency, 1, 0, 0
	last.Burst, last.Rate, last.Delay = 1, 0, 1
	for _, x := range []api.SchedBearer{exampleSure(), exampleBest(), x, last, best("a-", 100, 100000), best("A0", 0, 0)} {
		e := sched.CheckBearer(exampleSite(), x)
		expect(t, fmt.Sprint("CheckBearer ", x), e, e, api.OK, api.OK)
	}
	n, e := sched.CheckBearers(exampleSite(), []api.SchedBearer{best("a", 1, 1), best("A", 1, 1), best("a-", 1, 1)})
	expect(t, "CheckBearers, names alike", n, e, 0, api.OK)
}

func TestNeedOf(t *testing.T) {
	site := exampleSite()
	for _, x := range []struct {
		x    api.SchedBearer
		want api.SchedNeed
	}{
		{exampleBest(), api.SchedNeed{}},
		{best("b", 0, 100000), api.SchedNeed{}},
		{guaranteed("x", api.SchedSure, 7, 1, 1, 0, 1000), api.SchedNeed{Blocks: 1, Control: 1, Power: 7}},
		{guaranteed("x", api.SchedEmergency, 10, 1, 80, 0, 1), api.SchedNeed{Blocks: 8, Control: 1, Power: 80}},
		{guaranteed("x", api.SchedSure, 0, 2, 1, 41, 1), api.SchedNeed{Blocks: 3, Control: 1}},
		{guaranteed("x", api.SchedSure, 1, 2, 1, 40, 1), api.SchedNeed{Blocks: 2, Control: 1, Power: 2}},
		{guaranteed("x", api.SchedSure, 1, 3, 161, 0, 4), api.SchedNeed{Blocks: 2, Control: 1, Power: 2}},
		{guaranteed("x", api.SchedSure, 1, 3, 160, 0, 4), api.SchedNeed{Blocks: 1, Control: 1, Power: 1}},
		{guaranteed("x", api.SchedSure, 100000, 1, 1000000, 0, 1), api.SchedNeed{Blocks: 100000, Control: 1, Power: 10000000000}},
	} {
		need, e := sched.NeedOf(site, x.x)
		expect(t, fmt.Sprint("NeedOf ", x.x), need, e, x.want, api.OK)
	}
	site.Table[1] = 1
	need, e := sched.NeedOf(site, guaranteed("x", api.SchedSure, 100000, 1, 1, 1000000, 1))
	expect(t, "NeedOf, greatest", need, e, api.SchedNeed{Blocks: 1000000, Control: 1, Power: 100000000000}, api.OK)
}

// slowNeed counts blocks until they do.
func slowNeed(s api.SchedSite, x api.SchedBearer) api.SchedNeed {
	if x.Kind == api.SchedBest {
		return api.SchedNeed{}
	}
	blocks := 0
	for ; blocks*s.Table[x.Least] < x.Rate || blocks*s.Table[x.Least]*x.Delay < x.Burst; blocks++ {
		if blocks > 50 && blocks*s.Table[x.Least] > 10000000 {
			panic("no end")
		}
	}
	return api.SchedNeed{Blocks: blocks, Control: 1, Power: blocks * x.Power}
}

// TestNeedsOfAny compares with slowNeed. That many blocks prove a delay of at most that of the contract, and one less does not, or carries less than the rate.
func TestNeedsOfAny(t *testing.T) {
	r := rand.New(rand.NewSource(62))
	none, proved := 0, 0
	for range 5000 {
		s := randomSite(r)
		x := randomBearer(r, s, "x")
		need, e := sched.NeedOf(s, x)
		expect(t, fmt.Sprint("NeedOf ", s, x), need, e, slowNeed(s, x), api.OK)
		if x.Kind == api.SchedBest {
			continue
		}
		for blocks := 1; blocks <= s.Blocks; blocks++ {
			delay, e := sched.DelayOf(s, x, blocks)
			bits := blocks * s.Table[x.Least]
			if bits < x.Rate {
				none++
				expect(t, fmt.Sprint("DelayOf ", s, x, blocks), delay, e, 0, api.ErrNone)
			} else {
				proved++
				expect(t, fmt.Sprint("DelayOf ", s, x, blocks), delay, e, up(x.Burst, bits), api.OK)
			}
			if does := e == api.OK && delay <= x.Delay; does != (blocks >= need.Blocks) {
				t.Errorf("%v, %v: the need is %v, and %d blocks prove %d, error %d", s, x, need, blocks, delay, e)
			}
		}
	}
	if none < 1000 || proved < 1000 {
		t.Errorf("%d and %d delays", none, proved)
	}
}

// roomOf is what needs leave.
func roomOf(s api.SchedSite, l []api.SchedBearer) api.SchedNeed {
	room := api.SchedNeed{Blocks: s.Blocks, Control: s.Control, Power: s.Power}
	for _, x := range l {
		need := slowNeed(s, x)
		room.Blocks -= need.Blocks
		room.Control -= need.Control
		room.Power -= need.Power
	}
	return room
}

func doFit(s api.SchedSite, l []api.SchedBearer) bool {
	room := roomOf(s, l)
	return room.Blocks >= 0 && room.Control >= 0 && room.Power >= 0
}

func TestRoom(t *testing.T) {
	r := rand.New(rand.NewSource(63))
	right := 0
	for range 5000 {
		s := randomSite(r)
		var l []api.SchedBearer
		for _, name := range names()[:r.Intn(5)] {
			l = append(l, randomBearer(r, s, name))
		}
		want, e := roomOf(s, l), api.OK
		if !doFit(s, l) {
			want, e = api.SchedNeed{}, api.ErrFull
		} else if len(l) > 1 {
			right++
		}
		room, f := sched.Room(s, l)
		expect(t, fmt.Sprint("Room ", s, l), room, f, want, e)
		n, f := sched.CheckBearers(s, l)
		expect(t, fmt.Sprint("CheckBearers ", s, l), n, f, 0, e)
	}
	if right < 200 {
		t.Errorf("%d times bearers fit", right)
	}
}

// TestFull is of needs that fit just so.
func TestFull(t *testing.T) {
	type list = []api.SchedBearer
	s := exampleSite()
	for _, x := range []struct {
		l    list
		want api.SchedNeed
	}{
		{nil, api.SchedNeed{Blocks: 10, Control: 3, Power: 1000}},
		{list{exampleSure(), exampleBest()}, api.SchedNeed{Blocks: 7, Control: 2, Power: 940}},
		{list{needing("x", api.SchedSure, 0, 10)}, api.SchedNeed{Control: 2, Power: 900}},
		{list{guaranteed("x", api.SchedSure, 100, 1, 100, 0, 1)}, api.SchedNeed{Control: 2}},
		{list{guaranteed("x", api.SchedSure, 200, 1, 50, 0, 1)}, api.SchedNeed{Blocks: 5, Control: 2}},
		{list{needing("x", api.SchedSure, 0, 1), needing("y", api.SchedEmergency, 0, 1), needing("z", api.SchedSure, 0, 1)}, api.SchedNeed{Blocks: 7, Power: 970}},
		{list{best("a", 1, 0), best("b", 1, 0), best("c", 1, 0), best("d", 1, 0), best("e", 1, 0), best("f", 1, 0), best("g", 1, 0), best("h", 1, 0)}, api.SchedNeed{Blocks: 10, Control: 3, Power: 1000}},
	} {
		room, e := sched.Room(s, x.l)
		expect(t, fmt.Sprint("Room ", x.l), room, e, x.want, api.OK)
	}
}

// TestBreaksExample is the example 3 of the chapter.
func TestBreaksExample(t *testing.T) {
	for _, x := range []struct {
		arrivals []int
		want     [2]int
		e        api.Errno
	}{
		{[]int{100, 20, 21}, [2]int{0, 2}, api.OK},
		{[]int{100, 20, 20}, [2]int{}, api.ErrNone},
		{[]int{101}, [2]int{0, 0}, api.OK},
		{[]int{100}, [2]int{}, api.ErrNone},
		{nil, [2]int{}, api.ErrNone},
		{[]int{0, 100, 21}, [2]int{1, 2}, api.OK},
		{[]int{20, 100, 21}, [2]int{0, 2}, api.OK},
		{[]int{100, 0, 40, 20, 21}, [2]int{0, 4}, api.OK},
		{[]int{100, 0, 40, 20, 20}, [2]int{}, api.ErrNone},
		{[]int{19, 20, 100, 200}, [2]int{0, 3}, api.OK},
		{[]int{0, 0, 0, 101, 101}, [2]int{0, 4}, api.OK},
		{[]int{0, 0, 0, 101, 0}, [2]int{3, 3}, api.OK},
	} {
		window, e := sched.Breaks(exampleSite(), exampleSure(), x.arrivals)
		expect(t, fmt.Sprint("Breaks ", x.arrivals), window, e, x.want, x.e)
	}
}

// slowBreaks adds up each window.
func slowBreaks(x api.SchedBearer, arrivals []int) ([2]int, api.Errno) {
	for first := range arrivals {
		for last := first; last < len(arrivals); last++ {
			if sumOf(arrivals[first:last+1]) > x.Burst+x.Rate*(last-first) {
				return [2]int{first, last}, api.OK
			}
		}
	}
	return [2]int{}, api.ErrNone
}

func TestBreaks(t *testing.T) {
	r := rand.New(rand.NewSource(64))
	seen := map[api.Errno]int{}
	for range 5000 {
		x := guaranteed("x", 1+r.Intn(2), 0, 1, 1+r.Intn(40), r.Intn(10), 1+r.Intn(5))
		arrivals := randomList(r, r.Intn(10), []int{3, 8, 12, 20}[r.Intn(4)])
		if r.Intn(50) == 0 {
			arrivals = make([]int, 60)
			arrivals[59] = r.Intn(80)
		}
		want, e := slowBreaks(x, arrivals)
		seen[e]++
		window, f := sched.Breaks(exampleSite(), x, arrivals)
		expect(t, fmt.Sprint("Breaks ", x, arrivals), window, f, want, e)
	}
	if seen[api.OK] < 500 || seen[api.ErrNone] < 500 {
		t.Errorf("seen %v", seen)
	}
}
