package symbol_test

import (
	"math/rand"
	"slices"
	"testing"

	"downtilt/api"
	"downtilt/symbol"
)

// stepped is a register behind a step, and what this gives out, as the chapter defines them.
func stepped(r api.SymbolRegister) (int, api.SymbolRegister) {
	sum := 0
	for _, tap := range r.Taps {
		sum += r.State[tap]
	}
	state := append(slices.Clone(r.State[1:]), sum%2)
	return r.State[0], api.SymbolRegister{Length: r.Length, Taps: slices.Clone(r.Taps), State: state}
}

// periodOf steps until the bits are the same again.
func periodOf(r api.SymbolRegister) int {
	for n, x := 1, r; ; n++ {
		if _, x = stepped(x); slices.Equal(x.State, r.State) {
			return n
		}
	}
}

// smallRegisters is all right registers of two to five bits.
func smallRegisters() []api.SymbolRegister {
	var l []api.SymbolRegister
	for length := 2; length <= 5; length++ {
		for number := range 1 << (2*length - 1) {
			r := api.SymbolRegister{Length: length, Taps: []int{0}}
			for tap := 1; tap < length; tap++ {
				if number>>(tap-1)&1 == 1 {
					r.Taps = append(r.Taps, tap)
				}
			}
			for i := range length {
				r.State = append(r.State, number>>(length-1+i)&1)
			}
			l = append(l, r)
		}
	}
	return l
}

func example() api.SymbolRegister {
	return api.SymbolRegister{Length: 3, Taps: []int{0, 1}, State: []int{1, 0, 0}}
}

func TestRegisterExamples(t *testing.T) {
	r := example()
	for i, want := range []struct {
		out   int
		state []int
	}{{1, []int{0, 0, 1}}, {0, []int{0, 1, 0}}, {0, []int{1, 0, 1}}} {
		out, behind, e := symbol.Next(r)
		expect(t, "Next", out, e, want.out, api.OK)
		expect(t, "Next", behind, e, api.SymbolRegister{Length: 3, Taps: []int{0, 1}, State: want.state}, api.OK)
		jumped, e := symbol.Jumped(example(), i+1)
		expect(t, "Jumped", jumped, e, behind, api.OK)
		r = behind
	}
	l, e := symbol.Sequence(example(), 7)
	expect(t, "Sequence", l, e, []int{1, 0, 0, 1, 0, 1, 1}, api.OK)
	period, e := symbol.Period(example())
	expect(t, "Period", period, e, 7, api.OK)
	bits, e := symbol.Scrambled(example(), []int{1, 1, 1})
	expect(t, "Scrambled", bits, e, []int{0, 1, 1}, api.OK)
}

func TestRegistersAsDefined(t *testing.T) {
	r := rand.New(rand.NewSource(1))
	all := smallRegisters()
	for range 300 {
		all = append(all, randomRegister(r))
	}
	for _, x := range all {
		expect(t, "CheckRegister", 0, symbol.CheckRegister(x), 0, api.OK)
		out, behind, e := symbol.Next(x)
		wantOut, want := stepped(x)
		expect(t, "Next", out, e, wantOut, api.OK)
		expect(t, "Next", behind, e, want, api.OK)
		period, e := symbol.Period(x)
		expect(t, "Period", period, e, periodOf(x), api.OK)
		if period >= 1<<x.Length {
			t.Errorf("the period of %v is %d", x, period)
		}
		again, e := symbol.Jumped(x, period)
		expect(t, "Jumped by the period", again, e, x, api.OK)
	}
}

// TestSequencesAsDefined is of what registers give out, of jumps, and of scrambled bits.
func TestSequencesAsDefined(t *testing.T) {
	r := rand.New(rand.NewSource(2))
	for range 200 {
		x := randomRegister(r)
		bits := randomBits(r, 1+r.Intn(400))
		var given, scrambled []int
		behind := x
		for _, b := range bits {
			var out int
			out, behind = stepped(behind)
			given = append(given, out)
			scrambled = append(scrambled, (b+out)%2)
		}
		l, e := symbol.Sequence(x, len(bits))
		expect(t, "Sequence", l, e, given, api.OK)
		jumped, e := symbol.Jumped(x, len(bits))
		expect(t, "Jumped", jumped, e, behind, api.OK)
		l, e = symbol.Scrambled(x, bits)
		expect(t, "Scrambled", l, e, scrambled, api.OK)
		l, e = symbol.Scrambled(x, l)
		expect(t, "Scrambled twice", l, e, bits, api.OK)
		far := r.Intn(1000000000)
		there, e := symbol.Jumped(x, far)
		expect(t, "Jumped far", there, e, must(symbol.Jumped(x, far%periodOf(x))), api.OK)
		there, e = symbol.Jumped(there, 1000000000-far)
		expect(t, "Jumped in two", there, e, must(symbol.Jumped(x, 1000000000)), api.OK)
	}
	for _, count := range []int{1, 400} {
		l, e := symbol.Sequence(example(), count)
		expect(t, "Sequence", len(l), e, count, api.OK)
		l, e = symbol.Scrambled(example(), make([]int, count))
		expect(t, "Scrambled", len(l), e, count, api.OK)
	}
	same, e := symbol.Jumped(example(), 0)
	expect(t, "Jumped nowhere", same, e, example(), api.OK)
}

// TestPeriods is of registers whose periods are known.
func TestPeriods(t *testing.T) {
	longest := [][]int{2: {0, 1}, 3: {0, 1}, 4: {0, 1}, 5: {0, 2}, 6: {0, 1}, 7: {0, 1}, 8: {0, 2, 3, 4}, 9: {0, 4}, 10: {0, 3}}
	for length := 2; length <= 10; length++ {
		state := make([]int, length)
		zero := api.SymbolRegister{Length: length, Taps: longest[length], State: state}
		period, e := symbol.Period(zero)
		expect(t, "Period of zeros", period, e, 1, api.OK)
		zeros, e := symbol.Sequence(zero, length+1)
		expect(t, "Sequence of zeros", zeros, e, make([]int, length+1), api.OK)
		state[length/2] = 1
		period, e = symbol.Period(zero)
		expect(t, "Period of the longest", period, e, 1<<length-1, api.OK)
		period, e = symbol.Period(api.SymbolRegister{Length: length, Taps: []int{0}, State: state})
		expect(t, "Period of a circle", period, e, length, api.OK)
	}
}
