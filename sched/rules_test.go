package sched_test

import (
	"fmt"
	"math"
	"math/rand"
	"reflect"
	"slices"
	"strings"
	"testing"

	"downtilt/api"
	"downtilt/sched"
)

// anyNumber is one that is often at an end of a range, or far beyond.
func anyNumber(r *rand.Rand) int {
	ends := []int{0, 1, 2, 3, 4, 8, 9, 15, 16, 20, 21, 100, 101, 200, 201, 1000, 1001, 100000, 100001, 1000000, 1000001, 1000000000, 1000000001, 1000000000000000, 1000000000000001, -1, -2, -200, -201, -1000000, math.MaxInt, math.MinInt, math.MinInt + 1, 1 << 32}
	return ends[r.Intn(len(ends))]
}

// spoil changes about one of so many numbers of a value, and some lengths.
func spoil(r *rand.Rand, v reflect.Value, one int) {
	switch v.Kind() {
	case reflect.Int:
		if r.Intn(one) == 0 {
			v.SetInt(int64(anyNumber(r)))
		}
	case reflect.Bool:
		v.SetBool(r.Intn(2) == 0)
	case reflect.Struct:
		for i := range v.NumField() {
			spoil(r, v.Field(i), one)
		}
	case reflect.Slice:
		for i := range v.Len() {
			spoil(r, v.Index(i), one)
		}
		if v.Len() > 0 && r.Intn(one) == 0 {
			v.Set(v.Slice(0, r.Intn(v.Len())))
		}
	}
}

// wildArguments are right ones that go together, some of them changed.
func wildArguments(r *rand.Rand) arguments {
	var a arguments
	a.Site = randomSite(r)
	a.Report = r.Intn(16)
	a.Loop = api.SchedLoop{Up: r.Intn(201), Down: r.Intn(201), Limits: api.Range{Lo: -r.Intn(201), Hi: r.Intn(201)}}
	a.Acks = make([]bool, r.Intn(20))
	a.Bearers, a.Bearer = randomBearers(r, a.Site), randomBearer(r, a.Site, "x")
	a.Blocks = 1 + r.Intn(a.Site.Blocks)
	a.Arrivals = randomList(r, r.Intn(10), []int{5, 200, 1000000}[r.Intn(3)])
	a.Slots = randomSlots(r, a.Site, len(a.Bearers))
	a.Demand = randomDemand(r)
	a.A, a.B = randomShares(r, a.Demand), randomShares(r, a.Demand)
	if r.Intn(2) == 0 {
		a.A = must(sched.SharesOf(a.Demand))
	}
	a.Case = randomCase(r)
	a.Turns, a.Weights = make([]int, len(a.Case)), randomWeights(r, len(a.Case[0]))
	for i := range a.Turns {
		a.Turns[i] = r.Intn(len(a.Weights))
	}
	a.Text = sched.FormatBearer(a.Bearer)
	v := reflect.ValueOf(&a).Elem()
	for i := range v.NumField() {
		if r.Intn(4) == 0 {
			spoil(r, v.Field(i), 1+r.Intn(20))
		}
	}
	if r.Intn(4) == 0 {
		at := r.Intn(len(a.Text))
		a.Text = a.Text[:at] + string("01789- ?x\n"[r.Intn(10)]) + a.Text[at+r.Intn(2):]
	}
	return roomy(r, reflect.ValueOf(a)).Interface().(arguments)
}

// roomy is a copy of a value whose slices have room behind their ends, where numbers stand.
func roomy(r *rand.Rand, v reflect.Value) reflect.Value {
	c := reflect.New(v.Type()).Elem()
	switch v.Kind() {
	case reflect.Struct:
		for i := range v.NumField() {
			c.Field(i).Set(roomy(r, v.Field(i)))
		}
	case reflect.Slice:
		c = reflect.MakeSlice(v.Type(), v.Len()+2, v.Len()+2)
		for i := range v.Len() {
			c.Index(i).Set(roomy(r, v.Index(i)))
		}
		for i := v.Len(); i < c.Len(); i++ {
			spoil(r, c.Index(i), 1)
		}
		c = c.Slice(0, v.Len())
	default:
		c.Set(v)
	}
	return c
}

// slicesIn is all slices within a value, as long as their room is.
func slicesIn(v reflect.Value) []reflect.Value {
	var l []reflect.Value
	switch v.Kind() {
	case reflect.Interface:
		return slicesIn(v.Elem())
	case reflect.Struct:
		for i := range v.NumField() {
			l = append(l, slicesIn(v.Field(i))...)
		}
	case reflect.Slice:
		for i := range v.Len() {
			l = append(l, slicesIn(v.Index(i))...)
		}
		l = append(l, v.Slice(0, v.Cap()))
	}
	return l
}

// expectApart looks whether any two slices share memory.
func expectApart(t *testing.T, l []reflect.Value) {
	t.Helper()
	l = slices.DeleteFunc(l, func(v reflect.Value) bool { return v.Len() == 0 })
	slices.SortFunc(l, func(a, b reflect.Value) int { return int(a.Pointer()) - int(b.Pointer()) })
	for i := 1; i < len(l); i++ {
		end := l[i-1].Pointer() + uintptr(l[i-1].Len())*l[i-1].Type().Elem().Size()
		if end > l[i].Pointer() {
			t.Fatalf("two slices share memory: %v, %v", l[i-1], l[i])
		}
	}
}

// TestNothingPanics calls all functions with any arguments (P1, R2): beside an error all other results are zero (R1), the same call has the same results (R4), no argument is changed, also not behind its end, and no two slices share memory (R3).
func TestNothingPanics(t *testing.T) {
	r := rand.New(rand.NewSource(75))
	right, wrong := map[string]int{}, map[string]int{}
	for range 3000 {
		a := wildArguments(r)
		memory := slicesIn(reflect.ValueOf(a))
		before := fmt.Sprint(memory)
		for _, f := range functions() {
			results, e := f.call(a)
			if e == api.OK {
				right[f.name]++
			} else {
				wrong[f.name]++
			}
			if e != api.OK && !areNothing(results) {
				t.Fatalf("%s: %v beside the error %d", f.name, results, e)
			}
			again, e2 := f.call(a)
			expect(t, f.name+" again", again, e2, results, e)
			for _, x := range append(results, again...) {
				memory = append(memory, slicesIn(reflect.ValueOf(x))...)
			}
		}
		if after := fmt.Sprint(slicesIn(reflect.ValueOf(a))); after != before {
			t.Fatalf("an argument was changed: %s, %s", before, after)
		}
		expectApart(t, memory)
	}
	for _, f := range functions() {
		if right[f.name] < 100 || wrong[f.name] < 20 && f.name != "FormatBearer" {
			t.Errorf("%s was right %d times, and wrong %d times", f.name, right[f.name], wrong[f.name])
		}
	}
}

// TestLargeArguments is of lists and texts that are far too long.
func TestLargeArguments(t *testing.T) {
	const many = 1 << 20
	for _, x := range []struct {
		change func(*arguments)
		e      api.Errno
		names  []string
	}{
		{func(a *arguments) { a.Site.Table = make([]int, many) }, api.ErrLarge, []string{"CheckSite", "RateOf", "CheckBearer", "CheckBearers", "NeedOf", "DelayOf", "Room", "Admit", "Breaks", "Run", "FirstLate"}},
		{func(a *arguments) { a.Acks = make([]bool, many) }, api.ErrLarge, []string{"LoopAfter"}},
		{func(a *arguments) { a.Bearers = make([]api.SchedBearer, many) }, api.ErrLarge, []string{"CheckBearers", "Room", "Admit", "Run", "FirstLate"}},
		{func(a *arguments) { a.Bearer.Name = strings.Repeat("a", many) }, api.ErrName, []string{"CheckBearer", "NeedOf", "DelayOf", "Admit", "Breaks"}},
		{func(a *arguments) { a.Arrivals = make([]int, many) }, api.ErrLarge, []string{"Breaks"}},
		{func(a *arguments) { a.Slots = make([]api.SchedSlot, many) }, api.ErrLarge, []string{"Run", "FirstLate"}},
		{func(a *arguments) { a.Slots[0] = slot(make([]int, many)...) }, api.ErrShape, []string{"Run", "FirstLate"}},
		{func(a *arguments) { a.Demand.Demands, a.Demand.Weights = make([]int, many), make([]int, many) }, api.ErrLarge, []string{"SharesOf", "CheckShares", "Fairer"}},
		{func(a *arguments) { a.A.Parts = make([]int, many) }, api.ErrShape, []string{"CheckShares", "Fairer"}},
		{func(a *arguments) { a.Case = slices.Repeat(a.Case, many) }, api.ErrLarge, []string{"TurnsOf", "BestTurns", "CheckBound"}},
		{func(a *arguments) { a.Case[0] = make([]int, many) }, api.ErrLarge, []string{"TurnsOf", "BestTurns", "CheckBound"}},
		{func(a *arguments) { a.Turns = make([]int, many) }, api.ErrShape, []string{"TurnsOf"}},
		{func(a *arguments) { a.Weights = make([]int, many) }, api.ErrShape, []string{"CheckBound"}},
		{func(a *arguments) { a.Text += strings.Repeat(" 1", many) }, api.ErrSyntax, []string{"ParseBearer"}},
		{func(a *arguments) { a.Text += strings.Repeat("1", many) }, api.ErrSyntax, []string{"ParseBearer"}},
	} {
		for _, name := range x.names {
			a := rightArguments()
			x.change(&a)
			results, e := functionOf(name).call(a)
			expect(t, name, areNothing(results), e, true, x.e)
		}
	}
}

// TestGreatestRun is of sixty slots in which all is as great as it may be.
func TestGreatestRun(t *testing.T) {
	s := api.SchedSite{Blocks: 20, Control: 8, Power: 100000, Table: []int{1000}}
	var l []api.SchedBearer
	for _, name := range names()[:8] {
		l = append(l, api.SchedBearer{Name: name, Weight: 100, Power: 5000})
	}
	slots := make([]api.SchedSlot, 60)
	for i := range slots {
		slots[i] = api.SchedSlot{Reports: make([]int, 8), Arrivals: slices.Repeat([]int{1000000}, 8)}
	}
	trace, e := sched.Run(s, l, slots)
	expect(t, "Run, all sent", sumOf(trace.Sent), e, 60*20*1000, api.OK)
	for i := range l {
		expect(t, "Run, all in turn", trace.Sent[i]+trace.Left[i], e, 60000000, api.OK)
		if trace.Sent[i] != 150000 {
			t.Errorf("%s has sent %d", l[i].Name, trace.Sent[i])
		}
	}
}
