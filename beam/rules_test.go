package beam_test

import (
	"fmt"
	"math"
	"math/rand"
	"reflect"
	"slices"
	"strings"
	"testing"

	"downtilt/api"
	"downtilt/beam"
)

// anyNumber is one that is often at an end of a range, or far beyond.
func anyNumber(r *rand.Rand) int {
	ends := []int{0, 1, 2, 3, 5, 6, 7, 8, 9, 12, 13, 16, 17, 30, 31, 400, 401, 900, 901, 1000000, 1000001, 1000000000, 1000000001, 1000000000000, 1000000000001, -1, -2, -8, -30, -31, -900, -901, -1000000000000, -1000000000001, math.MaxInt, math.MinInt, math.MinInt + 1, 1 << 32}
	return ends[r.Intn(len(ends))]
}

// spoil changes about one of so many numbers of a value, and some lengths.
func spoil(r *rand.Rand, v reflect.Value, one int) {
	switch v.Kind() {
	case reflect.Int:
		if r.Intn(one) == 0 {
			v.SetInt(int64(anyNumber(r)))
		}
	case reflect.Struct:
		for i := range v.NumField() {
			spoil(r, v.Field(i), one)
		}
	case reflect.Array:
		for i := range v.Len() {
			spoil(r, v.Index(i), one)
		}
	case reflect.Slice:
		for i := range v.Len() {
			spoil(r, v.Index(i), one)
		}
		if v.Len() > 0 && r.Intn(one) == 0 {
			v.Set(v.Slice(0, r.Intn(v.Len())))
		}
	}
}

// wildArguments are right ones that go together, some of them changed.
func wildArguments(r *rand.Rand) arguments {
	var a arguments
	count := 1 + r.Intn(8)
	a.B, a.Antennas, a.Step = randomBeam(r, count), 1+r.Intn(8), r.Intn(8)
	a.G, a.H = heardChannel(r, count, 30), heardChannel(r, count, 30)
	a.P = square(part(r, 1000000000000), part(r, 1000000000000))
	a.Q = square(part(r, 1000000000000), part(r, 1000000000000))
	a.Book = randomBook(r, 1+r.Intn(16), count)
	a.Most = randomMost(r)
	a.Users = randomUsers(r, r.Intn(7), count, 2)
	a.Pairs = must(beam.MostPairs(a.Users, a.Most))
	a.Panel = api.BeamPanel{Power: r.Intn(1000001), Most: r.Intn(1000001)}
	a.Wants = randomList(r, r.Intn(13), 1000000)
	a.Split = must(beam.SplitOf(a.Panel, a.Wants))
	a.Tilt = api.BeamTilt{Down: part(r, 900), Width: 1 + r.Intn(900), Most: r.Intn(401)}
	a.Angle = part(r, 900)
	a.S = beam.FormatBeam(a.B)
	v := reflect.ValueOf(&a).Elem()
	for i := range v.NumField() {
		if r.Intn(4) == 0 {
			spoil(r, v.Field(i), 1+r.Intn(20))
		}
	}
	if r.Intn(4) == 0 {
		at := r.Intn(len(a.S))
		a.S = a.S[:at] + string("01789- ?x\n"[r.Intn(10)]) + a.S[at+r.Intn(2):]
	}
	return roomy(r, reflect.ValueOf(a)).Interface().(arguments)
}

// roomy is a copy of a value whose slices have room behind their ends, where numbers stand.
func roomy(r *rand.Rand, v reflect.Value) reflect.Value {
	c := reflect.New(v.Type()).Elem()
	switch v.Kind() {
	case reflect.Struct:
		for i := range v.NumField() {
			c.Field(i).Set(roomy(r, v.Field(i)))
		}
	case reflect.Slice:
		c = reflect.MakeSlice(v.Type(), v.Len()+2, v.Len()+2)
		for i := range v.Len() {
			c.Index(i).Set(roomy(r, v.Index(i)))
		}
		for i := v.Len(); i < c.Len(); i++ {
			spoil(r, c.Index(i), 1)
		}
		c = c.Slice(0, v.Len())
	default:
		c.Set(v)
	}
	return c
}

// slicesIn is all slices within a value, as long as their room is.
func slicesIn(v reflect.Value) []reflect.Value {
	var l []reflect.Value
	switch v.Kind() {
	case reflect.Interface:
		return slicesIn(v.Elem())
	case reflect.Struct:
		for i := range v.NumField() {
			l = append(l, slicesIn(v.Field(i))...)
		}
	case reflect.Slice:
		for i := range v.Len() {
			l = append(l, slicesIn(v.Index(i))...)
		}
		l = append(l, v.Slice(0, v.Cap()))
	}
	return l
}

// expectApart looks whether any two slices share memory.
func expectApart(t *testing.T, l []reflect.Value) {
	t.Helper()
	l = slices.DeleteFunc(l, func(v reflect.Value) bool { return v.Len() == 0 })
	slices.SortFunc(l, func(a, b reflect.Value) int { return int(a.Pointer()) - int(b.Pointer()) })
	for i := 1; i < len(l); i++ {
		end := l[i-1].Pointer() + uintptr(l[i-1].Len())*l[i-1].Type().Elem().Size()
		if end > l[i].Pointer() {
			t.Fatalf("two slices share memory: %v, %v", l[i-1], l[i])
		}
	}
}

// TestNothingPanics calls all functions with any arguments (P1, R2): beside an error all other results are zero (R1), the same call has the same results (R4), no argument is changed, also not behind its end, and no two slices share memory (R3).
func TestNothingPanics(t *testing.T) {
	r := rand.New(rand.NewSource(42))
	right, wrong := map[string]int{}, map[string]int{}
	for range 3000 {
		a := wildArguments(r)
		memory := slicesIn(reflect.ValueOf(a))
		before := fmt.Sprint(memory)
		for _, f := range functions() {
			results, e := f.call(a)
			if e == api.OK {
				right[f.name]++
			} else {
				wrong[f.name]++
			}
			if e != api.OK && !areNothing(results) {
				t.Fatalf("%s: %v beside the error %d", f.name, results, e)
			}
			again, e2 := f.call(a)
			expect(t, f.name+" again", again, e2, results, e)
			for _, x := range append(results, again...) {
				memory = append(memory, slicesIn(reflect.ValueOf(x))...)
			}
		}
		if after := fmt.Sprint(slicesIn(reflect.ValueOf(a))); after != before {
			t.Fatalf("an argument was changed: %s, %s", before, after)
		}
		expectApart(t, memory)
	}
	for _, f := range functions() {
		if right[f.name] < 100 || wrong[f.name] < 20 && f.name != "FormatBeam" {
			t.Errorf("%s was right %d times, and wrong %d times", f.name, right[f.name], wrong[f.name])
		}
	}
}

// TestLargeArguments is of lists and texts that are far too long.
func TestLargeArguments(t *testing.T) {
	const many = 1 << 20
	numbers, channel := make([]int, many), make([]api.Gauss, many)
	a := rightArguments()
	a.B, a.G, a.H, a.Users = phased(numbers...), channel, channel, make([][]api.Gauss, many)
	a.Split, a.Wants, a.S = numbers, numbers, strings.Repeat("0 ", many)+"0"
	for _, name := range []string{"CheckBeam", "ResponseOf", "GainOf", "Nulls", "PowerOf", "Sweep", "BestOf", "InnerOf", "PartOf", "Cleared", "KeptOf", "MayShare", "MostPairs", "CheckPairs", "CheckSplit", "SplitOf", "ParseBeam"} {
		results, e := functionOf(name).call(a)
		expect(t, name, areNothing(results), e, true, api.ErrLarge)
	}
	a.Book = make([]api.BeamBeam, many)
	for _, name := range []string{"Sweep", "BestOf"} {
		results, e := functionOf(name).call(a)
		expect(t, name+" of a large book", areNothing(results), e, true, api.ErrLarge)
	}
	if s := beam.FormatBeam(phased(numbers...)); len(s) != 2*many-1 {
		t.Errorf("FormatBeam writes %d bytes", len(s))
	}
	a = rightArguments()
	n, e := beam.CheckPairs(a.Users, a.Most, make([][2]int, many))
	expect(t, "CheckPairs of many pairs", n, e, 0, api.ErrOrder)
}
