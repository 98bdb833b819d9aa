package wave_test

import (
	"fmt"
	"math"
	"math/rand"
	"reflect"
	"slices"
	"testing"

	"downtilt/api"
	"downtilt/wave"
)

// anyNumber is one that is often at an end of a range, or far beyond.
func anyNumber(r *rand.Rand) int {
	ends := []int{0, 1, 2, 3, 6, 7, 8, 20, 21, 40, 58, 59, 62, 100, 101, 120, 121, 1007, 1008, 10000, 10001, 100000, 100001, 1000000, 1000001, 1000000000, 1000000001, 10000000000000, 10000000000001, -1, -2, -8, -100, -10000, -10001, -100000, -1000000000, math.MaxInt, math.MinInt, math.MinInt + 1, 1 << 32}
	return ends[r.Intn(len(ends))]
}

// spoil changes about one of so many numbers of a value, and some lengths.
func spoil(r *rand.Rand, v reflect.Value, one int) {
	switch v.Kind() {
	case reflect.Int:
		if r.Intn(one) == 0 {
			v.SetInt(int64(anyNumber(r)))
		}
	case reflect.Struct:
		for i := range v.NumField() {
			spoil(r, v.Field(i), one)
		}
	case reflect.Array:
		for i := range v.Len() {
			spoil(r, v.Index(i), one)
		}
	case reflect.Slice:
		for i := range v.Len() {
			spoil(r, v.Index(i), one)
		}
		if v.Len() > 0 && r.Intn(one) == 0 {
			v.Set(v.Slice(0, r.Intn(v.Len())))
		}
	}
}

// wildArguments are right ones that go together, some of them changed.
func wildArguments(r *rand.Rand) arguments {
	var a arguments
	a.X, a.Y = randomNumber(r, 30000), randomNumber(r, 30000)
	a.P = api.WaveSquare{P: part(r, 10000000000000), Q: part(r, 10000000000000)}
	a.Q = api.WaveSquare{P: part(r, 10000000000000), Q: part(r, 10000000000000)}
	a.Eighths, a.Guard, a.Step, a.Limit, a.Identity = r.Intn(8), r.Intn(8), 1+r.Intn(20), r.Intn(10001), r.Intn(1008)
	a.Entries = [8]api.Gauss(randomGauss(r, 8, 10000))
	a.Samples = must(wave.Samples(a.Entries))
	a.Four = [4]api.Gauss(randomGauss(r, 4, 1000))
	a.Back = must(wave.Four(a.Four))
	a.Symbols = randomSymbols(r, 1+r.Intn(6), 10000)
	a.Symbol = r.Intn(len(a.Symbols))
	a.Stream = must(wave.Stream(a.Symbols, a.Guard))
	a.Paths = randomPaths(r, 7, 100)
	a.List = randomGauss(r, 1+r.Intn(40), 10000)
	a.Other = randomGauss(r, len(a.List), 10000)
	a.Values = randomValues(r, 62, 100000)
	a.Longer = randomValues(r, 62+r.Intn(59), 100000)
	a.At = r.Intn(len(a.Longer) - 61)
	a.Known = randomNumbers(r, 1+r.Intn(16), 100)
	a.Received = randomNumbers(r, len(a.Known), 100)
	a.References = randomReferences(r, r.Intn(41))
	a.Heard = randomGauss(r, len(a.References), 10000)
	v := reflect.ValueOf(&a).Elem()
	for i := range v.NumField() {
		if r.Intn(4) == 0 {
			spoil(r, v.Field(i), 1+r.Intn(20))
		}
	}
	return roomy(r, reflect.ValueOf(a)).Interface().(arguments)
}

// roomy is a copy of a value whose slices have room behind their ends, where numbers stand.
func roomy(r *rand.Rand, v reflect.Value) reflect.Value {
	c := reflect.New(v.Type()).Elem()
	switch v.Kind() {
	case reflect.Struct:
		for i := range v.NumField() {
			c.Field(i).Set(roomy(r, v.Field(i)))
		}
	case reflect.Slice:
		c = reflect.MakeSlice(v.Type(), v.Len()+2, v.Len()+2)
		for i := range v.Len() {
			c.Index(i).Set(roomy(r, v.Index(i)))
		}
		for i := v.Len(); i < c.Len(); i++ {
			spoil(r, c.Index(i), 1)
		}
		c = c.Slice(0, v.Len())
	default:
		c.Set(v)
	}
	return c
}

// slicesIn is all slices within a value, as long as their room is.
func slicesIn(v reflect.Value) []reflect.Value {
	var l []reflect.Value
	switch v.Kind() {
	case reflect.Interface:
		return slicesIn(v.Elem())
	case reflect.Struct:
		for i := range v.NumField() {
			l = append(l, slicesIn(v.Field(i))...)
		}
	case reflect.Slice:
		for i := range v.Len() {
			l = append(l, slicesIn(v.Index(i))...)
		}
		l = append(l, v.Slice(0, v.Cap()))
	}
	return l
}

// expectApart looks whether any two slices share memory.
func expectApart(t *testing.T, l []reflect.Value) {
	t.Helper()
	l = slices.DeleteFunc(l, func(v reflect.Value) bool { return v.Len() == 0 })
	slices.SortFunc(l, func(a, b reflect.Value) int { return int(a.Pointer()) - int(b.Pointer()) })
	for i := 1; i < len(l); i++ {
		end := l[i-1].Pointer() + uintptr(l[i-1].Len())*l[i-1].Type().Elem().Size()
		if end > l[i].Pointer() {
			t.Fatalf("two slices share memory: %v, %v", l[i-1], l[i])
		}
	}
}

// TestNothingPanics calls all functions with any arguments (P1, R2): beside an error all other results are zero (R1), the same call has the same results (R4), no argument is changed, also not behind its end, and no two slices share memory (R3).
func TestNothingPanics(t *testing.T) {
	r := rand.New(rand.NewSource(22))
	right, wrong := map[string]int{}, map[string]int{}
	for range 2000 {
		a := wildArguments(r)
		memory := slicesIn(reflect.ValueOf(a))
		before := fmt.Sprint(memory)
		for _, f := range functions() {
			results, e := f.call(a)
			if e == api.OK {
				right[f.name]++
			} else {
				wrong[f.name]++
			}
			if e != api.OK && !areNothing(results) {
				t.Fatalf("%s: %v beside the error %d", f.name, results, e)
			}
			again, e2 := f.call(a)
			expect(t, f.name+" again", again, e2, results, e)
			for _, x := range append(results, again...) {
				memory = append(memory, slicesIn(reflect.ValueOf(x))...)
			}
		}
		if after := fmt.Sprint(slicesIn(reflect.ValueOf(a))); after != before {
			t.Fatalf("an argument was changed: %s, %s", before, after)
		}
		expectApart(t, memory)
	}
	for _, f := range functions() {
		if right[f.name] < 100 || wrong[f.name] < 20 {
			t.Errorf("%s was right %d times, and wrong %d times", f.name, right[f.name], wrong[f.name])
		}
	}
}

// TestLargeArguments is of lists that are far too long.
func TestLargeArguments(t *testing.T) {
	const many = 1 << 20
	a := rightArguments()
	a.Symbols, a.Paths = make([][8]api.Gauss, many), make([]api.WavePath, many)
	a.Longer, a.List = make([]int, many), make([]api.Gauss, many)
	a.Known, a.Received = make([]api.WaveNumber, many), make([]api.WaveNumber, many)
	a.Stream = a.Known
	a.References = a.List
	for _, name := range []string{"Stream", "SymbolOf", "CheckPaths", "Through", "ResponseOf", "Clipped", "ErrorOf", "IdentityAt", "Search", "Shifted", "OffsetOf", "EstimatesOf", "Interpolated", "BendOf"} {
		results, e := functionOf(name).call(a)
		expect(t, name, areNothing(results), e, true, api.ErrLarge)
	}
	a.Paths = rightArguments().Paths
	results, e := functionOf("Through").call(a)
	expect(t, "Through, of many samples", areNothing(results), e, true, api.ErrLarge)
	a.Values = a.Longer
	results, e = functionOf("CorrelationOf").call(a)
	expect(t, "CorrelationOf", areNothing(results), e, true, api.ErrShape)
}
