package code_test

import (
	"math"
	"math/rand"
	"slices"
	"testing"

	"downtilt/api"
	"downtilt/code"
)

func TestBegin(t *testing.T) {
	b, e := code.Begin(2, 3)
	one := api.CodeProcess{Toggle: -1, Soft: []int{0, 0}}
	expect(t, "Begin", b, e, api.CodeBuffers{Length: 2, Processes: []api.CodeProcess{one, one, one}}, api.OK)
	b, e = code.Begin(200, 8)
	if e != api.OK || b.Length != 200 || len(b.Processes) != 8 || len(b.Processes[7].Soft) != 200 {
		t.Errorf("Begin of the most: %v, %d", b, e)
	}
	type arguments struct{ length, count int }
	lengths := spoils("length", wrongLengths(), func(a *arguments, n int) { a.length = n })
	few := []wrong[int]{{0, api.ErrRange}, {-1, api.ErrRange}, {9, api.ErrRange}, {math.MinInt, api.ErrRange}, {math.MaxInt, api.ErrRange}}
	counts := spoils("count", few, func(a *arguments, n int) { a.count = n })
	checkErrors(t, "Begin", func() arguments { return arguments{1, 1} }, func(a arguments) (api.CodeBuffers, api.Errno) { return code.Begin(a.length, a.count) }, lengths, counts)
}

// twoBuffers are one with the toggle 0, and an empty one.
func twoBuffers() api.CodeBuffers {
	return api.CodeBuffers{Length: 2, Processes: []api.CodeProcess{
		{Toggle: 0, Count: 4, Soft: []int{5, 5}},
		{Toggle: api.CodeNoToggle, Soft: []int{0, 0}},
	}}
}

func TestReceiveExamples(t *testing.T) {
	x := api.CodeReceived{Toggle: 1, Soft: []int{1, 2}}
	want := twoBuffers()
	b, e := code.Receive(twoBuffers(), x)
	want.Processes[0] = api.CodeProcess{Toggle: 1, Count: 1, Soft: []int{1, 2}}
	expect(t, "Receive of a new block", b, e, want, api.OK)
	b, e = code.Receive(b, x)
	want.Processes[0] = api.CodeProcess{Toggle: 1, Count: 2, Soft: []int{2, 4}}
	expect(t, "Receive again", b, e, want, api.OK)
	b, e = code.Receive(b, api.CodeReceived{Process: 1, Toggle: 0, Version: 2, Soft: []int{7, 8, 9}})
	want.Processes[1] = api.CodeProcess{Toggle: 0, Count: 1, Soft: []int{8, 16}}
	expect(t, "Receive in an empty buffer", b, e, want, api.OK)
	// a buffer that is full of sums takes what keeps them in their range
	full := twoBuffers()
	full.Processes[0].Soft = []int{1000000000, -1000000000}
	full.Processes[0].Count = 999999999
	b, e = code.Receive(full, api.CodeReceived{Soft: []int{-1, 1}})
	want = twoBuffers()
	want.Processes[0] = api.CodeProcess{Count: 1000000000, Soft: []int{999999999, -999999999}}
	expect(t, "Receive of as many as can be", b, e, want, api.OK)
	_, e = code.Receive(b, api.CodeReceived{Soft: []int{0, 0}})
	expect(t, "Receive of one too many", 0, e, 0, api.ErrLarge)
	_, e = code.Receive(full, api.CodeReceived{Soft: []int{1}})
	expect(t, "Receive of too large a sum", 0, e, 0, api.ErrLarge)
	_, e = code.Receive(full, api.CodeReceived{Version: 2, Soft: []int{-1}})
	expect(t, "Receive of too small a sum", 0, e, 0, api.ErrLarge)
	// with another toggle neither the sums nor the count that were there matter
	b, e = code.Receive(b, api.CodeReceived{Toggle: 1, Soft: []int{1000000, 1}})
	want.Processes[0] = api.CodeProcess{Toggle: 1, Count: 1, Soft: []int{1000000, 1}}
	expect(t, "Receive of a new block in a full one", b, e, want, api.OK)
}

// buffersSpoils are in the order in which P2.6 lists the errors of the buffers.
func buffersSpoils() []spoil[api.CodeBuffers] {
	list := func(b *api.CodeBuffers) []api.CodeProcess { return b.Processes }
	at := func(n int, f func(p *api.CodeProcess)) func(b *api.CodeBuffers) {
		return func(b *api.CodeBuffers) {
			if n < len(list(b)) {
				f(&b.Processes[n])
			}
		}
	}
	l := spoils("length", wrongLengths(), func(b *api.CodeBuffers, n int) { b.Length = n })
	l = append(l,
		spoil[api.CodeBuffers]{"list", func(b *api.CodeBuffers) { b.Processes = nil }, api.ErrShape},
		spoil[api.CodeBuffers]{"list", func(b *api.CodeBuffers) { b.Processes = make([]api.CodeProcess, 9) }, api.ErrLarge})
	for n := range 2 {
		name := []string{"first", "second"}[n]
		for _, x := range []struct {
			touches string
			f       func(p *api.CodeProcess)
			e       api.Errno
		}{
			{"toggle", func(p *api.CodeProcess) { p.Toggle = -2 }, api.ErrRange},
			{"toggle", func(p *api.CodeProcess) { p.Toggle = 2 }, api.ErrRange},
			{"toggle", func(p *api.CodeProcess) { p.Toggle = math.MinInt }, api.ErrRange},
			{"count", func(p *api.CodeProcess) { p.Count = -1 }, api.ErrRange},
			{"count", func(p *api.CodeProcess) { p.Count = 1000000001 }, api.ErrRange},
			{"state", func(p *api.CodeProcess) { p.Toggle, p.Count = -1, 1 }, api.ErrState},
			{"state", func(p *api.CodeProcess) { p.Toggle, p.Count = 1, 0 }, api.ErrState},
			{"soft", func(p *api.CodeProcess) { p.Soft = nil }, api.ErrShape},
			{"soft", func(p *api.CodeProcess) { p.Soft = []int{0, 0, math.MaxInt} }, api.ErrShape},
			{"soft", func(p *api.CodeProcess) { p.Soft = []int{1, 1000000001} }, api.ErrRange},
			{"soft", func(p *api.CodeProcess) { p.Soft = []int{-1000000001, 1} }, api.ErrRange},
			{"soft", func(p *api.CodeProcess) { p.Soft = []int{0, math.MinInt} }, api.ErrRange},
			{"all", func(p *api.CodeProcess) { p.Toggle, p.Count, p.Soft = -1, 0, []int{0, 1} }, api.ErrState},
		} {
			l = append(l, spoil[api.CodeBuffers]{name + " " + x.touches, at(n, x.f), x.e})
		}
	}
	return l
}

type receiveArguments struct {
	b api.CodeBuffers
	x api.CodeReceived
}

func TestErrorsOfReceive(t *testing.T) {
	fresh := func() receiveArguments {
		return receiveArguments{twoBuffers(), api.CodeReceived{Process: 1, Toggle: 1, Version: 3, Soft: []int{1, 2, 3}}}
	}
	call := func(a receiveArguments) (api.CodeBuffers, api.Errno) { return code.Receive(a.b, a.x) }
	var buffers []spoil[receiveArguments]
	for _, s := range buffersSpoils() {
		change := func(a *receiveArguments) { s.change(&a.b) }
		buffers = append(buffers, spoil[receiveArguments]{s.touches, change, s.e})
		// by itself, and ahead of each error of the reception
		checkErrors(t, "Receive", fresh, call, buffers[len(buffers)-1:], receptionSpoils())
	}
	for i, x := range buffers {
		for _, y := range buffers[i+1:] {
			if isApart(x.touches, y.touches) {
				checkErrors(t, "Receive", fresh, call, []spoil[receiveArguments]{x, y})
			}
		}
	}
}

// isApart tells whether two spoils of buffers leave each other as they are: those of one buffer that is made wrong as a whole do not.
func isApart(a, b string) bool {
	return a != b && (a[:2] != b[:2] || !slices.Contains([]string{"state", "all"}, lastWord(a)) && !slices.Contains([]string{"state", "all"}, lastWord(b)))
}

func lastWord(s string) string {
	for i := len(s) - 1; i >= 0; i-- {
		if s[i] == ' ' {
			return s[i+1:]
		}
	}
	return s
}

// receptionSpoils are in the order in which P2.6 lists the errors of a reception.
func receptionSpoils() []spoil[receiveArguments] {
	numbers := []wrong[int]{{-1, api.ErrMissing}, {2, api.ErrMissing}, {8, api.ErrMissing}, {math.MinInt, api.ErrMissing}, {math.MaxInt, api.ErrMissing}}
	toggles := []wrong[int]{{-1, api.ErrKind}, {2, api.ErrKind}, {math.MinInt, api.ErrKind}}
	return slices.Concat(
		spoils("process", numbers, func(a *receiveArguments, n int) { a.x.Process = n }),
		spoils("x toggle", toggles, func(a *receiveArguments, n int) { a.x.Toggle = n }),
		spoils("version", wrongVersions(), func(a *receiveArguments, n int) { a.x.Version = n }),
		spoils("x soft", wrongSoft(), func(a *receiveArguments, s []int) { a.x.Soft = s }),
	)
}

// TestErrorsWithinABuffer has the errors that isApart leaves out: a state comes before what is wrong with soft bits.
func TestErrorsWithinABuffer(t *testing.T) {
	for i, x := range []struct {
		p api.CodeProcess
		e api.Errno
	}{
		{api.CodeProcess{Toggle: -1, Count: 1}, api.ErrState},
		{api.CodeProcess{Toggle: 0, Count: 0}, api.ErrState},
		{api.CodeProcess{Toggle: -1, Count: 0}, api.ErrShape},
		{api.CodeProcess{Toggle: -1, Count: 0, Soft: []int{1, 1000000001}}, api.ErrRange},
		{api.CodeProcess{Toggle: -1, Count: 0, Soft: []int{1, 1}}, api.ErrState},
		{api.CodeProcess{Toggle: -1, Count: 0, Soft: []int{0, -1}}, api.ErrState},
		{api.CodeProcess{Toggle: -1, Count: 0, Soft: []int{0, 0}}, api.OK},
		{api.CodeProcess{Toggle: 1, Count: 1, Soft: []int{0, 0}}, api.OK},
		{api.CodeProcess{Toggle: 0, Count: 999999999, Soft: []int{-1000000000, 0}}, api.OK},
		{api.CodeProcess{Toggle: 0, Count: 1000000000, Soft: []int{1000000000, 0}}, api.OK},
	} {
		b := api.CodeBuffers{Length: 2, Processes: []api.CodeProcess{x.p}}
		_, e := code.Receive(b, api.CodeReceived{Toggle: 1 - max(x.p.Toggle, 0), Soft: []int{1}})
		if e != x.e {
			t.Errorf("case %d: %d, want %d", i, e, x.e)
		}
	}
}

// TestNeverMixed is P2.14: it keeps all receptions, and adds up those since the toggle was changed last.
func TestNeverMixed(t *testing.T) {
	r := rand.New(rand.NewSource(10))
	for range 200 {
		length, count := 1+r.Intn(200), 1+r.Intn(8)
		b := must(code.Begin(length, count))
		since := make([][]api.CodeReceived, count)
		for range 30 {
			x := api.CodeReceived{Process: r.Intn(count), Toggle: r.Intn(2), Version: r.Intn(4), Soft: randomSoft(r, 1+r.Intn(400), 1000000)}
			l := since[x.Process]
			if len(l) > 0 && l[0].Toggle != x.Toggle {
				l = nil
			}
			since[x.Process] = append(l, x)
			var e api.Errno
			b, e = code.Receive(b, x)
			expect(t, "Receive", b, e, buffersOf(since, length), api.OK)
		}
	}
}

// buffersOf is the buffers behind receptions of one toggle each.
func buffersOf(since [][]api.CodeReceived, length int) api.CodeBuffers {
	b := api.CodeBuffers{Length: length}
	for _, l := range since {
		p := api.CodeProcess{Toggle: -1, Count: len(l), Soft: make([]int, length)}
		for _, x := range l {
			p.Toggle = x.Toggle
			for i, s := range x.Soft {
				p.Soft[(x.Version*length/4+i)%length] += s
			}
		}
		b.Processes = append(b.Processes, p)
	}
	return b
}
