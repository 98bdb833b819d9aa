package move_test

import (
	"fmt"
	"math"
	"math/rand"
	"reflect"
	"slices"
	"strings"
	"testing"

	"downtilt/api"
	"downtilt/move"
)

// anyNumber is one that is often at an end of a range, or far beyond.
func anyNumber(r *rand.Rand) int {
	ends := []int{0, 1, 2, 3, 4, 5, 6, 7, 11, 12, 40, 41, 60, 61, 199, 200, 201, 300, 301, 1000, 1001, 99999, 100000, 100001, 999999, 1000000, 1000001, 999999999, 1000000000, 1000000001, -1, -2, -300, -301, -2000, -2001, math.MaxInt, math.MaxInt - 1, math.MinInt, math.MinInt + 1, 1 << 32}
	return ends[r.Intn(len(ends))]
}

// spoil changes about one of so many parts of a value, and some lengths.
func spoil(r *rand.Rand, v reflect.Value, one int) {
	switch v.Kind() {
	case reflect.Int:
		if r.Intn(one) == 0 {
			v.SetInt(int64(anyNumber(r)))
		}
	case reflect.String:
		if r.Intn(one) == 0 {
			v.SetString([]string{"", "a", "b", "1", "a b", "abcdefghijklm", "\xff"}[r.Intn(7)])
		}
	case reflect.Struct:
		for i := range v.NumField() {
			spoil(r, v.Field(i), one)
		}
	case reflect.Array:
		for i := range v.Len() {
			spoil(r, v.Index(i), one)
		}
	case reflect.Slice:
		for i := range v.Len() {
			spoil(r, v.Index(i), one)
		}
		if v.Len() > 0 && r.Intn(one) == 0 {
			v.Set(v.Slice(0, r.Intn(v.Len())))
		}
	}
}

// wildArguments are right ones that go together, some of them changed.
func wildArguments(r *rand.Rand) arguments {
	var a arguments
	a.Rule = randomRule(r)
	pair := randomLevels(r, 2)
	a.Serving, a.Neighbour = pair[0], pair[1]
	a.Levels = randomLevels(r, 1+r.Intn(6))
	a.ServingNumber = r.Intn(len(a.Levels))
	a.Network = randomNetwork(r)
	a.Cell = r.Intn(len(a.Network.Cells))
	a.Log = randomLog(r, a.Network, a.Cell)
	a.State = randomState(r, a.Network)
	a.At = min(api.MaxTick, laterTime(r, a.Network, a.State))
	a.Event = randomEvent(r, a.Network, a.State, a.At)
	a.Stays, a.Within = randomStays(r, a.Network), upTo(r, 10)
	a.EventText, a.StateText = move.FormatEvent(a.Event), move.FormatState(a.State)
	v := reflect.ValueOf(&a).Elem()
	for i := range v.NumField() {
		if name := v.Type().Field(i).Name; r.Intn(6) == 0 && !strings.HasSuffix(name, "Text") {
			spoil(r, v.Field(i), 1+r.Intn(20))
		}
	}
	if r.Intn(4) == 0 {
		a.EventText, a.StateText = spoilText(r, a.EventText+" "), spoilText(r, a.StateText)
	}
	return roomy(r, reflect.ValueOf(a)).Interface().(arguments)
}

// roomy is a copy of a value whose slices have room behind their ends, where something stands.
func roomy(r *rand.Rand, v reflect.Value) reflect.Value {
	c := reflect.New(v.Type()).Elem()
	switch v.Kind() {
	case reflect.Struct:
		for i := range v.NumField() {
			c.Field(i).Set(roomy(r, v.Field(i)))
		}
	case reflect.Slice:
		c = reflect.MakeSlice(v.Type(), v.Len()+2, v.Len()+2)
		for i := range v.Len() {
			c.Index(i).Set(roomy(r, v.Index(i)))
		}
		for i := v.Len(); i < c.Len(); i++ {
			spoil(r, c.Index(i), 1)
		}
		c = c.Slice(0, v.Len())
	default:
		c.Set(v)
	}
	return c
}

// slicesIn is all slices within a value, as long as their room is.
func slicesIn(v reflect.Value) []reflect.Value {
	var l []reflect.Value
	switch v.Kind() {
	case reflect.Struct:
		for i := range v.NumField() {
			l = append(l, slicesIn(v.Field(i))...)
		}
	case reflect.Slice:
		for i := range v.Len() {
			l = append(l, slicesIn(v.Index(i))...)
		}
		l = append(l, v.Slice(0, v.Cap()))
	}
	return l
}

// expectApart looks whether any two slices share memory.
func expectApart(t *testing.T, l []reflect.Value) {
	t.Helper()
	l = slices.DeleteFunc(l, func(v reflect.Value) bool { return v.Len() == 0 })
	slices.SortFunc(l, func(a, b reflect.Value) int { return int(a.Pointer()) - int(b.Pointer()) })
	for i := 1; i < len(l); i++ {
		end := l[i-1].Pointer() + uintptr(l[i-1].Len())*l[i-1].Type().Elem().Size()
		if end > l[i].Pointer() {
			t.Fatalf("two slices share memory: %v, %v", l[i-1], l[i])
		}
	}
}

// TestNothingPanics calls all functions with any arguments (P1, R2): beside an error all other results are zero (R1), the same call has the same results (R4), no argument is changed, also not behind its end, and no two slices share memory (R3).
func TestNothingPanics(t *testing.T) {
	r := rand.New(rand.NewSource(96))
	right, wrong := map[string]int{}, map[string]int{}
	for range 600 {
		a := wildArguments(r)
		memory := slicesIn(reflect.ValueOf(a))
		before := fmt.Sprint(memory)
		for _, f := range functions() {
			results, e := f.call(a)
			if e == api.OK {
				right[f.name]++
			} else {
				wrong[f.name]++
			}
			if e != api.OK && !areNothing(results) {
				t.Fatalf("%s: %v beside the error %d", f.name, results, e)
			}
			again, e2 := f.call(a)
			expect(t, f.name+" again", again, e2, results, e)
			for _, x := range append(results, again...) {
				memory = append(memory, slicesIn(reflect.ValueOf(x))...)
			}
		}
		if after := fmt.Sprint(slicesIn(reflect.ValueOf(a))); after != before {
			t.Fatalf("an argument was changed: %s, %s", before, after)
		}
		expectApart(t, memory)
	}
	for _, f := range functions() {
		isFormat := strings.HasPrefix(f.name, "Format")
		if right[f.name] < 50 || wrong[f.name] < 20 && !isFormat {
			t.Errorf("%s was right %d times, and wrong %d times", f.name, right[f.name], wrong[f.name])
		}
	}
}

// TestLargeArguments is of lists that are far too long.
func TestLargeArguments(t *testing.T) {
	const many = 1 << 20
	long := make([]int, many)
	for _, x := range []struct {
		change func(*arguments)
		names  string
		e      api.Errno
	}{
		{func(a *arguments) { a.Serving, a.Neighbour = long, long }, "FirstTrigger Triggers", api.ErrLarge},
		{func(a *arguments) { a.Levels = make([][]int, many) }, "Strongest", api.ErrLarge},
		{func(a *arguments) { a.Levels = [][]int{long, long, long} }, "Strongest", api.ErrLarge},
		{func(a *arguments) { a.Network.Cells = make([]string, many) }, "CheckNetwork Begin CheckState CheckEvent Apply Replay Possible Received Waiting DueOf Stays PingPongs LongestOutage", api.ErrLarge},
		{func(a *arguments) { a.Network.Neighbours = make([][2]int, many) }, "CheckNetwork Begin CheckState CheckEvent Apply Replay Possible Received Waiting DueOf Stays PingPongs LongestOutage", api.ErrOrder},
		{func(a *arguments) { a.State.Buffers = make([][]int, many) }, "CheckState Apply Possible Waiting DueOf", api.ErrShape},
		{func(a *arguments) { a.State.Buffers = [][]int{long, long, long} }, "CheckState Apply Possible Waiting DueOf", api.ErrLarge},
		{func(a *arguments) { a.State.Fresh = api.MaxMoveNumber }, "CheckState Apply Possible Waiting DueOf", api.ErrGap},
		{func(a *arguments) { a.Log = make([]api.MoveEvent, many) }, "Replay Received Stays LongestOutage", api.ErrLarge},
		{func(a *arguments) { a.Stays = make([]api.MoveStay, many) }, "PingPongs", api.ErrLarge},
	} {
		for name := range strings.SplitSeq(x.names, " ") {
			a := rightArguments()
			x.change(&a)
			results, e := functionOf(name).call(a)
			expect(t, name, areNothing(results), e, true, x.e)
		}
	}
	x := api.MoveState{Buffers: [][]int{long, nil}}
	if s := move.FormatState(x); len(s) != len("0 0 0 0 0 0 0 0 0||")+2*many-1 {
		t.Errorf("a text of %d bytes", len(s))
	}
}
