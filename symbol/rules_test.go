package symbol_test

import (
	"fmt"
	"math"
	"math/rand"
	"reflect"
	"slices"
	"strings"
	"testing"

	"downtilt/api"
	"downtilt/symbol"
)

// number is one that is often at an end of a range, or far beyond.
func number(r *rand.Rand) int {
	ends := []int{0, 1, 2, 3, 4, 5, 6, 8, 10, 11, 200, 201, 400, 401, 1000, 1001, 10000000, 10000001, 100000000, 100000001, 1000000000, -1, -2, -1000, -100000000, math.MaxInt, math.MinInt, math.MinInt + 1, 1 << 32}
	return ends[r.Intn(len(ends))]
}

// spoil changes about one of so many numbers of a value, and some lengths.
func spoil(r *rand.Rand, v reflect.Value, one int) {
	switch v.Kind() {
	case reflect.Int:
		if r.Intn(one) == 0 {
			v.SetInt(int64(number(r)))
		}
	case reflect.Struct:
		for i := range v.NumField() {
			spoil(r, v.Field(i), one)
		}
	case reflect.Slice:
		for i := range v.Len() {
			spoil(r, v.Index(i), one)
		}
		if v.Len() > 0 && r.Intn(one) == 0 {
			v.Set(v.Slice(0, r.Intn(v.Len())))
		}
	}
}

// wildArguments are right ones that go together, some of them changed.
func wildArguments(r *rand.Rand) arguments {
	var a arguments
	a.R, a.Steps, a.Count = randomRegister(r), r.Intn(1000000001), 1+r.Intn(4)
	a.Order, a.Level = 2+2*r.Intn(3), r.Intn(15)-7
	a.Label, a.Bits = randomBits(r, 1+r.Intn(3)), randomBits(r, a.Order*(1+r.Intn(400/a.Order)))
	a.X = api.SymbolReceived{Order: a.Order, Gain: 1 + r.Intn(10000000), Symbols: randomSymbols(r, 1+r.Intn(20), 100000000)}
	a.Sent = randomSymbols(r, len(a.X.Symbols), 10)
	a.Symbols = randomSymbols(r, a.Count*(1+r.Intn(30)), 100000000)
	rows, columns := 1+r.Intn(4), 1+r.Intn(4)
	if r.Intn(2) == 0 {
		rows = 1 + r.Intn(2)
		columns = rows
	}
	a.A = randomRows(r, rows, columns, 10)
	a.B = randomRows(r, columns, 1+r.Intn(4), 10)
	a.Layers = randomRows(r, columns, 1+r.Intn(10), 1000)
	a.Ports = randomRows(r, rows, 1+r.Intn(10), 1000)
	a.S = symbol.FormatSymbols(a.Symbols)
	v := reflect.ValueOf(&a).Elem()
	for i := range v.NumField() {
		if r.Intn(4) == 0 {
			spoil(r, v.Field(i), 1+r.Intn(20))
		}
	}
	if r.Intn(4) == 0 {
		at := r.Intn(len(a.S))
		a.S = a.S[:at] + string("0123456789,- +x\n"[r.Intn(16)]) + a.S[at+r.Intn(2):]
	}
	return roomy(r, reflect.ValueOf(a)).Interface().(arguments)
}

// roomy is a copy of a value whose slices have room behind their ends, where numbers stand.
func roomy(r *rand.Rand, v reflect.Value) reflect.Value {
	c := reflect.New(v.Type()).Elem()
	switch v.Kind() {
	case reflect.Struct:
		for i := range v.NumField() {
			c.Field(i).Set(roomy(r, v.Field(i)))
		}
	case reflect.Slice:
		c = reflect.MakeSlice(v.Type(), v.Len()+2, v.Len()+2)
		for i := range v.Len() {
			c.Index(i).Set(roomy(r, v.Index(i)))
		}
		for i := v.Len(); i < c.Len(); i++ {
			spoil(r, c.Index(i), 1)
		}
		c = c.Slice(0, v.Len())
	default:
		c.Set(v)
	}
	return c
}

// slicesIn is all slices within a value, as long as their room is.
func slicesIn(v reflect.Value) []reflect.Value {
	var l []reflect.Value
	switch v.Kind() {
	case reflect.Interface:
		return slicesIn(v.Elem())
	case reflect.Struct:
		for i := range v.NumField() {
			l = append(l, slicesIn(v.Field(i))...)
		}
	case reflect.Slice:
		for i := range v.Len() {
			l = append(l, slicesIn(v.Index(i))...)
		}
		l = append(l, v.Slice(0, v.Cap()))
	}
	return l
}

// expectApart looks whether any two slices share memory.
func expectApart(t *testing.T, l []reflect.Value) {
	t.Helper()
	l = slices.DeleteFunc(l, func(v reflect.Value) bool { return v.Len() == 0 })
	slices.SortFunc(l, func(a, b reflect.Value) int { return int(a.Pointer()) - int(b.Pointer()) })
	for i := 1; i < len(l); i++ {
		end := l[i-1].Pointer() + uintptr(l[i-1].Len())*l[i-1].Type().Elem().Size()
		if end > l[i].Pointer() {
			t.Fatalf("two slices share memory: %v, %v", l[i-1], l[i])
		}
	}
}

// TestNothingPanics calls all functions with any arguments (P1, R2): beside an error all other results are zero (R1), the same call has the same results (R4), no argument is changed, also not behind its end, and no two slices share memory (R3).
func TestNothingPanics(t *testing.T) {
	r := rand.New(rand.NewSource(11))
	right, wrong := map[string]int{}, map[string]int{}
	for range 4000 {
		a := wildArguments(r)
		memory := slicesIn(reflect.ValueOf(a))
		before := fmt.Sprint(memory)
		for _, f := range functions() {
			results, e := f.call(a)
			if e == api.OK {
				right[f.name]++
			} else {
				wrong[f.name]++
			}
			if e != api.OK && !areNothing(results) {
				t.Fatalf("%s: %v beside the error %d", f.name, results, e)
			}
			again, e2 := f.call(a)
			expect(t, f.name+" again", again, e2, results, e)
			for _, x := range append(results, again...) {
				memory = append(memory, slicesIn(reflect.ValueOf(x))...)
			}
		}
		if after := fmt.Sprint(slicesIn(reflect.ValueOf(a))); after != before {
			t.Fatalf("an argument was changed: %s, %s", before, after)
		}
		expectApart(t, memory)
	}
	for _, f := range functions() {
		if right[f.name] < 100 || wrong[f.name] < 100 && f.name != "FormatSymbols" {
			t.Errorf("%s was right %d times, and wrong %d times", f.name, right[f.name], wrong[f.name])
		}
	}
}

// TestLargeArguments is of lists and texts that are far too long.
func TestLargeArguments(t *testing.T) {
	const many = 1 << 20
	bits, symbols, rows := make([]int, many), make([]api.Gauss, many), make([][]api.Gauss, many)
	a := rightArguments()
	a.Label, a.Bits, a.X.Symbols, a.Symbols = bits, bits, symbols, symbols
	a.A, a.Layers, a.S = rows, rows, strings.Repeat("0,0 ", many)+"0,0"
	for _, name := range []string{"Scrambled", "LevelOf", "Modulated", "Hard", "Soft", "GreatestError", "Layered", "Unlayered", "CheckMatrix", "Applied", "Product", "Determinant", "Equalized", "ParseSymbols"} {
		results, e := functionOf(name).call(a)
		expect(t, name, areNothing(results), e, true, api.ErrLarge)
	}
	e := symbol.CheckMatrix([][]api.Gauss{symbols})
	expect(t, "CheckMatrix of a long row", 0, e, 0, api.ErrLarge)
	_, e = symbol.Unlayered([][]api.Gauss{symbols})
	expect(t, "Unlayered of a long layer", 0, e, 0, api.ErrLarge)
	e = symbol.CheckRegister(api.SymbolRegister{Length: 10, Taps: bits, State: bits})
	expect(t, "CheckRegister of many taps", 0, e, 0, api.ErrOrder)
	e = symbol.CheckRegister(api.SymbolRegister{Length: 10, Taps: bits[:1], State: bits})
	expect(t, "CheckRegister of many bits", 0, e, 0, api.ErrShape)
}
