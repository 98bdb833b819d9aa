package station_test

import (
	"fmt"
	"math"
	"math/rand"
	"reflect"
	"slices"
	"strings"
	"testing"

	"downtilt/api"
	"downtilt/station"
)

// anyNumber is one that is often at an end of a range, or far beyond.
func anyNumber(r *rand.Rand) int {
	return oneOf(r, 0, 1, 2, 3, 4, 5, 6, 7, 8, 9, 10, 11, 12, 13, 20, 21, 29, 30, 31, 40, 41, 59, 60, 61, 400, 401, 1000, 65535, 65536, 100000, 100001, 998244352, 998244353, -1, -2, -2000, math.MaxInt, math.MaxInt-1, math.MinInt, math.MinInt+1, 1<<32)
}

// spoil changes about one of so many parts of a value, and some lengths.
func spoil(r *rand.Rand, v reflect.Value, one int) {
	switch v.Kind() {
	case reflect.Int:
		if r.Intn(one) == 0 {
			v.SetInt(int64(anyNumber(r)))
		}
	case reflect.String:
		if r.Intn(one) == 0 {
			v.SetString(oneOf(r, "", "a", "b", "1", "a b", "abcdefghijklm", "\xff", "\n"))
		}
	case reflect.Struct:
		for i := range v.NumField() {
			spoil(r, v.Field(i), one)
		}
	case reflect.Array:
		for i := range v.Len() {
			spoil(r, v.Index(i), one)
		}
	case reflect.Slice:
		for i := range v.Len() {
			spoil(r, v.Index(i), one)
		}
		if v.Len() > 0 && r.Intn(one) == 0 {
			v.Set(v.Slice(0, r.Intn(v.Len())))
		}
	}
}

// wildArguments are right ones that go together, some of them changed.
func wildArguments(r *rand.Rand) arguments {
	var a arguments
	a.House = randomHouse(r)
	a.Log = randomLog(r, a.House)
	state := must(station.StateOf(a.House, a.Log))
	a.Entry = api.StationEntry{By: randomPerson(r, a.House), Text: randomText(r, a.House, state, randomKinds(r))}
	a.A, a.B = withSignals(oneOf(r, "", "aab", "bc")), withSignals(oneOf(r, "bca", "c", "aaa"))
	a.Kind, a.Raised = r.Intn(1+len(a.House.Alarms)), randomSet(r, len(a.House.Alarms))
	a.Good, a.All = oneOf(r, []int{0, r.Intn(9)}, []int{0, r.Intn(9)}, randomReadings(r)), randomReadings(r)
	a.Number, a.Alone = upTo(r, 59), randomAlone(r)
	for range upTo(r, 60) {
		a.Lines = append(a.Lines, randomAlone(r))
	}
	a.Size = 1 + upTo(r, 19)
	a.Texts = must(station.Ring(a.Lines, a.Size))
	a.X, a.Seed, a.Steps = 1+upTo(r, 998244351), 1+upTo(r, 998244351), upTo(r, 40)
	a.Question = oneOf(r, "day", "bearers", "rest", "roots", "count a", "count", "")
	v := reflect.ValueOf(&a).Elem()
	for i := range v.NumField() {
		if r.Intn(6) == 0 {
			spoil(r, v.Field(i), oneOf(r, 1, 1, 5, 20))
		}
	}
	if r.Intn(3) == 0 {
		a.Entry.Text = spoilText(r, a.Entry.Text)
	}
	return roomy(r, reflect.ValueOf(a)).Interface().(arguments)
}

// roomy is a copy of a value whose slices have room behind their ends, where something stands.
func roomy(r *rand.Rand, v reflect.Value) reflect.Value {
	c := reflect.New(v.Type()).Elem()
	switch v.Kind() {
	case reflect.Struct:
		for i := range v.NumField() {
			c.Field(i).Set(roomy(r, v.Field(i)))
		}
	case reflect.Slice:
		c = reflect.MakeSlice(v.Type(), v.Len()+2, v.Len()+2)
		for i := range v.Len() {
			c.Index(i).Set(roomy(r, v.Index(i)))
		}
		for i := v.Len(); i < c.Len(); i++ {
			spoil(r, c.Index(i), 1)
		}
		c = c.Slice(0, v.Len())
	default:
		c.Set(v)
	}
	return c
}

// slicesIn is all slices within a value, as long as their room is.
func slicesIn(v reflect.Value) []reflect.Value {
	var l []reflect.Value
	switch v.Kind() {
	case reflect.Struct:
		for i := range v.NumField() {
			l = append(l, slicesIn(v.Field(i))...)
		}
	case reflect.Slice:
		for i := range v.Len() {
			l = append(l, slicesIn(v.Index(i))...)
		}
		l = append(l, v.Slice(0, v.Cap()))
	}
	return l
}

// expectApart looks whether any two slices share memory.
func expectApart(t *testing.T, l []reflect.Value) {
	t.Helper()
	l = slices.DeleteFunc(l, func(v reflect.Value) bool { return v.Len() == 0 })
	slices.SortFunc(l, func(a, b reflect.Value) int { return int(a.Pointer()) - int(b.Pointer()) })
	for i := 1; i < len(l); i++ {
		end := l[i-1].Pointer() + uintptr(l[i-1].Len())*l[i-1].Type().Elem().Size()
		if end > l[i].Pointer() {
			t.Fatalf("two slices share memory: %v, %v", l[i-1], l[i])
		}
	}
}

// TestNothingPanics calls all functions with any arguments (P1, R2): beside an error all other results are zero (R1), the same call has the same results (R4), no argument is changed, also not behind its end, and no two slices share memory (R3).
func TestNothingPanics(t *testing.T) {
	r := rand.New(rand.NewSource(114))
	right, wrong := map[string]int{}, map[string]int{}
	all := slices.DeleteFunc(functions(), func(f function) bool { return f.name == "New" }) // desks are compared elsewhere
	for range 250 {
		a := wildArguments(r)
		memory := slicesIn(reflect.ValueOf(a))
		before := fmt.Sprint(memory)
		for _, f := range all {
			results, e := f.call(a)
			if e == api.OK {
				right[f.name]++
			} else {
				wrong[f.name]++
			}
			if e != api.OK && !areNothing(results) {
				t.Fatalf("%s: %v beside the error %d", f.name, results, e)
			}
			again, e2 := f.call(a)
			expect(t, f.name+" again", again, e2, results, e)
			for _, x := range append(results, again...) {
				memory = append(memory, slicesIn(reflect.ValueOf(x))...)
			}
		}
		if after := fmt.Sprint(slicesIn(reflect.ValueOf(a))); after != before {
			t.Fatalf("an argument was changed: %s, %s", before, after)
		}
		expectApart(t, memory)
	}
	for _, f := range all {
		if right[f.name] < 20 || wrong[f.name] < 5 {
			t.Errorf("%s was right %d times, and wrong %d times", f.name, right[f.name], wrong[f.name])
		}
	}
}

// TestLargeArguments is of lists and texts that are far too long.
func TestLargeArguments(t *testing.T) {
	const many = 1 << 18
	const houses = "CheckHouse CheckLog StateOf Accept BroughtAbout RootsOf LeastCauses WorstOf Day Report Ask New"
	const logs = "CheckLog StateOf Accept Report Ask"
	long := strings.Repeat("a", many)
	for _, x := range []struct {
		change func(*arguments)
		names  string
		e      api.Errno
	}{
		{func(a *arguments) { a.House.Name = long }, houses, api.ErrName},
		{func(a *arguments) { a.House.People = make([]api.StationPerson, many) }, houses, api.ErrLarge},
		{func(a *arguments) { a.House.People[0].Name = long }, houses, api.ErrName},
		{func(a *arguments) { a.House.Carrier.Signals = make([]api.GridSignal, many) }, houses, api.ErrLarge},
		{func(a *arguments) { a.House.Sched.Table = make([]int, many) }, houses, api.ErrLarge},
		{func(a *arguments) { a.House.Net.Cells = make([]string, many) }, houses, api.ErrLarge},
		{func(a *arguments) { a.House.Plan.Cells = make([]api.PlanCell, many) }, houses, api.ErrLarge},
		{func(a *arguments) { a.House.Alarms = make([]api.StationAlarm, many) }, houses, api.ErrLarge},
		{func(a *arguments) { a.House.Alarms[2].Causes = make([]int, many) }, houses, api.ErrOrder},
		{func(a *arguments) { a.Log = make([]api.StationEntry, many) }, logs, api.ErrLarge},
		{func(a *arguments) { a.Log[0].Text = long }, logs, api.ErrLarge},
		{func(a *arguments) { a.Entry.Text = strings.Repeat(" ", many) }, "Accept", api.ErrLarge},
		{func(a *arguments) { a.Entry.By = long }, "Accept", api.ErrName},
		{func(a *arguments) { a.Raised = make([]int, many) }, "RootsOf LeastCauses WorstOf", api.ErrOrder},
		{func(a *arguments) { a.Good = make([]int, many) }, "TotalOf RateOf", api.ErrLarge},
		{func(a *arguments) { a.All = make([]int, many) }, "RateOf", api.ErrLarge},
		{func(a *arguments) { a.Alone.Text = long }, "SumOf", api.ErrLarge},
		{func(a *arguments) { a.Lines = make([]api.StationEntry, many) }, "Ring", api.ErrLarge},
		{func(a *arguments) { a.Texts = make([]string, many) }, "Left", api.ErrLarge},
		{func(a *arguments) { a.Texts = []string{long, "0 1 a " + long, strings.Repeat("0 ", many)} }, "Left", api.ErrNone},
		{func(a *arguments) { a.Question = long }, "Ask", api.ErrSyntax},
		{func(a *arguments) { a.Question = "count " + long }, "Ask", api.ErrSyntax},
	} {
		for name := range strings.SplitSeq(x.names, " ") {
			a := rightArguments()
			x.change(&a)
			results, e := functionOf(name).call(a)
			expect(t, name, areNothing(results), e, true, x.e)
		}
	}
}
