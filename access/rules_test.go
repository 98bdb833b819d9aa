package access_test

import (
	"fmt"
	"math"
	"math/rand"
	"reflect"
	"slices"
	"strings"
	"testing"

	"downtilt/access"
	"downtilt/api"
)

// anyNumber is one that is often at an end of a range, or far beyond.
func anyNumber(r *rand.Rand) int {
	ends := []int{0, 1, 2, 3, 4, 5, 6, 7, 8, 9, 10, 11, 15, 16, 17, 100, 101, 200, 201, 256, 1000, 1001, 1023, 1024, 20480, 20481, 1000000, 1000001, 998244352, 998244353, 1000000000, 1000000001, -1, -2, -5, -1000000, math.MaxInt, math.MaxInt - 1, math.MinInt, math.MinInt + 1, 1 << 32}
	return ends[r.Intn(len(ends))]
}

// spoil changes about one of so many numbers of a value, and some lengths.
func spoil(r *rand.Rand, v reflect.Value, one int) {
	switch v.Kind() {
	case reflect.Int:
		if r.Intn(one) == 0 {
			v.SetInt(int64(anyNumber(r)))
		}
	case reflect.Struct:
		for i := range v.NumField() {
			spoil(r, v.Field(i), one)
		}
	case reflect.Slice:
		for i := range v.Len() {
			spoil(r, v.Index(i), one)
		}
		if v.Len() > 0 && r.Intn(one) == 0 {
			v.Set(v.Slice(0, r.Intn(v.Len())))
		}
	}
}

// wildArguments are right ones that go together, some of them changed.
func wildArguments(r *rand.Rand) arguments {
	var a arguments
	a.Rules, a.Draws = randomRules(r), randomDraws(r)
	a.Log = randomLog(r, a.Rules, a.Draws)
	a.State = randomState(r, a.Rules)
	a.At = laterTick(r, a.Rules, a.State.At)
	a.Phones, a.Event = len(a.State.Phones), randomEvent(r, a.Rules, a.State, a.At)
	a.Identity = r.Intn(a.Rules.Identities)
	a.Paging, a.Phone, a.Other, a.Occasion = randomPaging(r), upTo(r, 1000000), upTo(r, 1000000), randomOccasion(r)
	a.Sleep, a.Tick, a.Last = randomSleep(r), upTo(r, api.MaxTick), upTo(r, api.MaxTick+1)-1
	a.Ticks.Lo = upTo(r, api.MaxTick)
	a.Ticks.Hi = a.Ticks.Lo + upTo(r, api.MaxTick-a.Ticks.Lo)
	a.Powers = randomPowers(r)
	a.EventText, a.StateText = access.FormatEvent(a.Event), access.FormatState(a.State)
	v := reflect.ValueOf(&a).Elem()
	for i := range v.NumField() {
		if r.Intn(4) == 0 {
			spoil(r, v.Field(i), 1+r.Intn(20))
		}
	}
	if r.Intn(4) == 0 {
		a.EventText, a.StateText = spoilText(r, a.EventText), spoilText(r, a.StateText)
	}
	return roomy(r, reflect.ValueOf(a)).Interface().(arguments)
}

// roomy is a copy of a value whose slices have room behind their ends, where numbers stand.
func roomy(r *rand.Rand, v reflect.Value) reflect.Value {
	c := reflect.New(v.Type()).Elem()
	switch v.Kind() {
	case reflect.Struct:
		for i := range v.NumField() {
			c.Field(i).Set(roomy(r, v.Field(i)))
		}
	case reflect.Slice:
		c = reflect.MakeSlice(v.Type(), v.Len()+2, v.Len()+2)
		for i := range v.Len() {
			c.Index(i).Set(roomy(r, v.Index(i)))
		}
		for i := v.Len(); i < c.Len(); i++ {
			spoil(r, c.Index(i), 1)
		}
		c = c.Slice(0, v.Len())
	default:
		c.Set(v)
	}
	return c
}

// slicesIn is all slices within a value, as long as their room is.
func slicesIn(v reflect.Value) []reflect.Value {
	var l []reflect.Value
	switch v.Kind() {
	case reflect.Struct:
		for i := range v.NumField() {
			l = append(l, slicesIn(v.Field(i))...)
		}
	case reflect.Slice:
		for i := range v.Len() {
			l = append(l, slicesIn(v.Index(i))...)
		}
		l = append(l, v.Slice(0, v.Cap()))
	}
	return l
}

// expectApart looks whether any two slices share memory.
func expectApart(t *testing.T, l []reflect.Value) {
	t.Helper()
	l = slices.DeleteFunc(l, func(v reflect.Value) bool { return v.Len() == 0 })
	slices.SortFunc(l, func(a, b reflect.Value) int { return int(a.Pointer()) - int(b.Pointer()) })
	for i := 1; i < len(l); i++ {
		end := l[i-1].Pointer() + uintptr(l[i-1].Len())*l[i-1].Type().Elem().Size()
		if end > l[i].Pointer() {
			t.Fatalf("two slices share memory: %v, %v", l[i-1], l[i])
		}
	}
}

// TestNothingPanics calls all functions with any arguments (P1, R2): beside an error all other results are zero (R1), the same call has the same results (R4), no argument is changed, also not behind its end, and no two slices share memory (R3).
func TestNothingPanics(t *testing.T) {
	r := rand.New(rand.NewSource(84))
	right, wrong := map[string]int{}, map[string]int{}
	for range 4000 {
		a := wildArguments(r)
		memory := slicesIn(reflect.ValueOf(a))
		before := fmt.Sprint(memory)
		for _, f := range functions() {
			results, e := f.call(a)
			if e == api.OK {
				right[f.name]++
			} else {
				wrong[f.name]++
			}
			if e != api.OK && !areNothing(results) {
				t.Fatalf("%s: %v beside the error %d", f.name, results, e)
			}
			again, e2 := f.call(a)
			expect(t, f.name+" again", again, e2, results, e)
			for _, x := range append(results, again...) {
				memory = append(memory, slicesIn(reflect.ValueOf(x))...)
			}
		}
		if after := fmt.Sprint(slicesIn(reflect.ValueOf(a))); after != before {
			t.Fatalf("an argument was changed: %s, %s", before, after)
		}
		expectApart(t, memory)
	}
	for _, f := range functions() {
		isFormat := strings.HasPrefix(f.name, "Format")
		if right[f.name] < 100 || wrong[f.name] < 20 && !isFormat {
			t.Errorf("%s was right %d times, and wrong %d times", f.name, right[f.name], wrong[f.name])
		}
	}
}

// TestLargeArguments is of lists that are far too long.
func TestLargeArguments(t *testing.T) {
	const many = 1 << 20
	for _, x := range []struct {
		change func(*arguments)
		names  []string
	}{
		{func(a *arguments) { a.Draws = make([]int, many) }, []string{"Begin", "Replay"}},
		{func(a *arguments) { a.State.Phones = make([]api.AccessPhone, many) }, []string{"CheckState", "Apply", "Possible", "Holder", "Asking"}},
		{func(a *arguments) { a.Log = make([]api.AccessEvent, many) }, []string{"Replay"}},
	} {
		for _, name := range x.names {
			a := rightArguments()
			x.change(&a)
			results, e := functionOf(name).call(a)
			expect(t, name, areNothing(results), e, true, api.ErrLarge)
		}
	}
	a := rightArguments()
	a.State.Phones = make([]api.AccessPhone, many)
	if s := access.FormatState(a.State); len(s) != 2+len(" 0,0,0,0,0,0,0")*many {
		t.Errorf("a text of %d bytes", len(s))
	}
}
