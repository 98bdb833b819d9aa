package code_test

import (
	"math"
	"math/rand"
	"reflect"
	"slices"
	"testing"

	"downtilt/api"
	"downtilt/code"
)

// arguments are of all functions.
type arguments struct {
	P                      api.CodePoly
	R                      api.CodeRule
	C                      api.CodePolar
	D                      api.CodeParity
	Chain                  api.CodeChain
	B                      api.CodeBuffers
	X                      api.CodeReceived
	Bits, Word, Soft, Sums []int
	Parts                  [][]int
	N, M                   int
	S                      string
}

// everything calls each function, and returns the results: each list of them ends with its error.
func everything(a arguments) [][]any {
	return [][]any{
		{code.CheckPoly(a.P)},
		list(code.Remainder(a.P, a.Bits)),
		list(code.Checked(a.P, a.Bits)),
		list(code.IsRight(a.P, a.Word)),
		list(code.Segments(a.R, a.Bits)),
		list3(code.Joined(a.R, a.Parts, a.N)),
		{code.CheckPolar(a.C)},
		list(code.Positions(a.N, a.M)),
		list(code.Encode(a.C, a.Bits)),
		list(code.Decode(a.C, a.Soft)),
		list3(code.DistanceOf(a.C)),
		list(code.CheckParity(a.D)),
		list(code.EncodeParity(a.D, a.Bits)),
		list(code.Failed(a.D, a.Word)),
		list3(code.Flip(a.D, a.Word)),
		list(code.LeastSums(a.D, a.Soft, a.N)),
		list(code.Hard(a.Sums)),
		list(code.Match(a.Word, a.N, a.M)),
		list(code.Gathered(a.Soft, a.N, a.M)),
		list(code.Combined(a.Sums, a.Soft)),
		list(code.Begin(a.M, a.N)),
		list(code.Receive(a.B, a.X)),
		list(code.Sent(a.Chain, a.Bits, a.N)),
		list(code.Recovered(a.Chain, a.Sums)),
		{code.FormatBits(a.Sums), api.OK},
		list(code.ParseBits(a.S)),
	}
}

func list[X any](x X, e api.Errno) []any {
	return []any{x, e}
}

func list3[X, Y any](x X, y Y, e api.Errno) []any {
	return []any{x, y, e}
}

// names tells whether a function tells a number beside its errors: only Joined (its second result) and CheckParity.
func names(function, result int) bool {
	return function == 5 && result == 1 || function == 11
}

// number is one that is often at an end of a range, or far beyond.
func number(r *rand.Rand) int {
	ends := []int{0, 1, 2, 3, 4, 5, 6, 8, 16, 40, 64, 100, 200, 201, 400, 401, 1000000, 1000001, 1000000000, 1000000001, -1, -2, math.MaxInt, math.MinInt, math.MaxInt - 1, 1 << 40}
	return ends[r.Intn(len(ends))]
}

// wildly changes about one of so many numbers of a value.
func wildly(r *rand.Rand, v reflect.Value, one int) {
	switch v.Kind() {
	case reflect.Int:
		if r.Intn(one) == 0 {
			v.SetInt(int64(number(r)))
		}
	case reflect.Struct:
		for i := range v.NumField() {
			wildly(r, v.Field(i), one)
		}
	case reflect.Slice:
		for i := range v.Len() {
			wildly(r, v.Index(i), one)
		}
	}
}

func spoilWildly[X any](r *rand.Rand, x *X) {
	if r.Intn(4) == 0 {
		wildly(r, reflect.ValueOf(x).Elem(), 1+r.Intn(20))
	}
}

// wildArguments are right ones that go together, some of them changed.
func wildArguments(r *rand.Rand) arguments {
	var a arguments
	a.Chain = randomChain(r)
	a.P, a.C = a.Chain.Poly, a.Chain.Polar
	a.R = api.CodeRule{Poly: a.P, Most: a.P.Degree + 1 + r.Intn(20)}
	a.D = randomParity(r, 1+r.Intn(40), 1+r.Intn(20))
	a.Bits = randomBits(r, []int{len(a.C.Info), len(a.C.Info) - a.P.Degree, a.D.Info, r.Intn(202)}[r.Intn(4)])
	a.Word = randomBits(r, []int{a.D.Info + len(a.D.Rows), r.Intn(202)}[r.Intn(2)])
	a.Soft = randomSoft(r, []int{1 << a.C.Power, a.D.Info + len(a.D.Rows), r.Intn(402)}[r.Intn(3)], 1000000)
	a.Sums = randomSoft(r, []int{len(a.Soft), 1 << a.C.Power}[r.Intn(2)], 1000000000)
	a.N, a.M = r.Intn(7), 1+r.Intn(200)
	if a.Parts, _ = code.Segments(a.R, a.Bits); r.Intn(2) == 0 {
		a.N = len(a.Bits)
	}
	a.B, _ = code.Begin(1+r.Intn(20), 1+r.Intn(3))
	a.X = api.CodeReceived{Process: r.Intn(3), Toggle: r.Intn(2), Version: r.Intn(4), Soft: randomSoft(r, 1+r.Intn(40), 1000000)}
	if next, e := code.Receive(a.B, a.X); e == api.OK && r.Intn(2) == 0 {
		a.B = next
	}
	a.S = code.FormatBits(a.Bits)
	spoilWildly(r, &a.P)
	spoilWildly(r, &a.R)
	spoilWildly(r, &a.C)
	spoilWildly(r, &a.D)
	spoilWildly(r, &a.Chain)
	spoilWildly(r, &a.B)
	spoilWildly(r, &a.X)
	for _, l := range []*[]int{&a.Bits, &a.Word, &a.Soft, &a.Sums} {
		spoilWildly(r, l)
	}
	spoilWildly(r, &a.Parts)
	spoilWildly(r, &a.N)
	spoilWildly(r, &a.M)
	return roomy(reflect.ValueOf(a)).Interface().(arguments)
}

// mark stands in the room behind the ends of slices.
const mark = 7777

// roomy is a copy of a value whose slices have marks behind their ends.
func roomy(v reflect.Value) reflect.Value {
	c := reflect.New(v.Type()).Elem()
	switch v.Kind() {
	case reflect.Struct:
		for i := range v.NumField() {
			c.Field(i).Set(roomy(v.Field(i)))
		}
	case reflect.Slice:
		c = reflect.MakeSlice(v.Type(), v.Len()+2, v.Len()+2)
		for i := range v.Len() {
			c.Index(i).Set(roomy(v.Index(i)))
		}
		for i := v.Len(); v.Type().Elem().Kind() == reflect.Int && i < c.Len(); i++ {
			c.Index(i).SetInt(mark)
		}
		c = c.Slice(0, v.Len())
	default:
		c.Set(v)
	}
	return c
}

// numbersIn is all slices of numbers within a value, as long as their room is.
func numbersIn(v reflect.Value) [][]int {
	switch v.Kind() {
	case reflect.Interface:
		return numbersIn(v.Elem())
	case reflect.Struct:
		var l [][]int
		for i := range v.NumField() {
			l = append(l, numbersIn(v.Field(i))...)
		}
		return l
	case reflect.Slice:
		if s, ok := v.Interface().([]int); ok {
			return [][]int{s[:cap(s)]}
		}
		var l [][]int
		for i := range v.Len() {
			l = append(l, numbersIn(v.Index(i))...)
		}
		return l
	}
	return nil
}

// TestNothingPanics calls all functions with any arguments (P1, R2): beside an error all other results are zero (R1), the same call has the same results (R4), no argument is changed, also not behind its end, and no two slices share memory (R3).
func TestNothingPanics(t *testing.T) {
	r := rand.New(rand.NewSource(14))
	right := make([]int, 26)
	for range 4000 {
		a := wildArguments(r)
		before := copies(numbersIn(reflect.ValueOf(a)))
		first := everything(a)
		for i, results := range first {
			e := results[len(results)-1].(api.Errno)
			if e == api.OK {
				right[i]++
			}
			for k, x := range results[:len(results)-1] {
				if e != api.OK && !names(i, k) && !isNothing(x) {
					t.Fatalf("function %d: %v beside the error %d", i, x, e)
				}
			}
		}
		mine := numbersIn(reflect.ValueOf(a))
		if !same(mine, before) {
			t.Fatal("an argument was changed")
		}
		if second := everything(a); !same(second, first) {
			t.Fatalf("two calls differ: %v, %v", first, second)
		}
		expectApart(t, append(mine, numbersIn(reflect.ValueOf(first))...))
	}
	for i, n := range right {
		if n < 200 {
			t.Errorf("function %d had no error %d times only", i, n)
		}
	}
}

func isNothing(x any) bool {
	v := reflect.ValueOf(x)
	return v.IsZero() || v.Kind() == reflect.Slice && v.Len() == 0
}

func copies(l [][]int) [][]int {
	var c [][]int
	for _, s := range l {
		c = append(c, slices.Clone(s))
	}
	return c
}

// expectApart writes another number into each slice, all its room, and looks whether it stays there.
func expectApart(t *testing.T, l [][]int) {
	t.Helper()
	for i, s := range l {
		for k := range s {
			s[k] = -i
		}
	}
	for i, s := range l {
		for _, n := range s {
			if n != -i {
				t.Fatal("two slices share memory")
			}
		}
	}
}

// TestLargeArguments is of lists and texts that are far too long.
func TestLargeArguments(t *testing.T) {
	large := make([]int, 1<<20)
	a := arguments{Bits: large, Word: large, Soft: large, Sums: large, S: string(make([]byte, 1<<20)), N: 1, M: 1,
		P: cubic(), R: seven(), C: square(), D: twoRows(), Chain: smallChain(), B: twoBuffers(), X: api.CodeReceived{Soft: large}, Parts: make([][]int, 1<<20)}
	for i, results := range everything(a) {
		e := results[len(results)-1].(api.Errno)
		if !slices.Contains([]int{0, 5, 6, 7, 10, 11, 20, 24}, i) && e != api.ErrLarge {
			t.Errorf("function %d: %d", i, e)
		}
	}
	long := api.CodeParity{Info: 1, Rows: make([][]int, 1<<20)}
	_, e := code.CheckParity(long)
	expect(t, "CheckParity of many rows", 0, e, 0, api.ErrLarge)
	_, e = code.CheckParity(api.CodeParity{Info: 1, Rows: [][]int{large}})
	expect(t, "CheckParity of a long row", 0, e, 0, api.ErrLarge)
	e = code.CheckPolar(api.CodePolar{Power: 6, Info: large})
	expect(t, "CheckPolar of many positions", 0, e, 0, api.ErrOrder)
	_, e = code.Receive(api.CodeBuffers{Length: 1, Processes: make([]api.CodeProcess, 1<<20)}, api.CodeReceived{})
	expect(t, "Receive of many buffers", 0, e, 0, api.ErrLarge)
}
