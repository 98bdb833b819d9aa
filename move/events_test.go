package move_test

import (
	"fmt"
	"math/rand"
	"slices"
	"strings"
	"testing"

	"downtilt/api"
	"downtilt/move"
)

// step is an event, and the state behind it, or its error.
type step struct {
	event, state string
	e            api.Errno
}

// steps applies events of the examples' network, and compares each state and error; a refused event changes nothing.
func steps(t *testing.T, from string, all []step) {
	t.Helper()
	x := stateOf(from)
	for _, y := range all {
		got, e := move.Apply(exampleNetwork(), x, eventOf(y.event))
		want := api.MoveState{}
		if y.e == api.OK {
			want = stateOf(y.state)
		}
		expect(t, y.event+" behind "+move.FormatState(x), got, e, want, y.e)
		if e == api.OK {
			x = got
		}
	}
}

const atBeginning = "0 0 0 0 -1 -1 0 0 0|||"

// behindCommand is the state behind "command 5" of the example 2.
const behindCommand = "5 2 5 0 1 -1 0 2 1|0 1||"

// TestHandoverExample is the example 2 of the chapter.
func TestHandoverExample(t *testing.T) {
	steps(t, atBeginning, []step{
		{event: "data 1", state: "1 0 0 0 -1 -1 0 1 0|0||"},
		{event: "data 2", state: "2 0 0 0 -1 -1 0 2 0|0 1||"},
		{event: "send 3", state: "3 0 0 0 -1 -1 0 2 1|0 1||"},
		{event: "prepare 4 1", state: "4 1 4 0 1 -1 0 2 1|0 1||"},
		{event: "command 5", state: behindCommand},
		{event: "send 6", e: api.ErrState},
		{event: "forward 6", state: "6 2 5 0 1 -1 0 2 1|1|0|"},
		{event: "forward 7", state: "7 2 5 0 1 -1 0 2 1||0 1|"},
		{event: "complete 8", state: "8 0 8 1 -1 0 0 2 1||0 1|"},
		{event: "send 9", state: "9 0 8 1 -1 0 0 2 1||0 1|"},
		{event: "ack 10", state: "10 0 8 1 -1 0 0 2 1||1|"},
		{event: "send 11", state: "11 0 8 1 -1 0 0 2 2||1|"},
		{event: "ack 12", state: "12 0 8 1 -1 0 0 2 2|||"},
		{event: "data 13", state: "13 0 8 1 -1 0 0 3 2|2||"},
		{event: "switch 14", state: "14 0 8 1 -1 0 1 3 2|2||"},
		{event: "data 15", state: "15 0 8 1 -1 0 1 4 2|2|3|"},
		{event: "send 16", e: api.ErrGap},
		{event: "forward 17", state: "17 0 8 1 -1 -1 1 4 2||2 3|"},
		{event: "send 18", state: "18 0 8 1 -1 -1 1 4 3||2 3|"},
	})
}

// TestFailureExample is the examples 3 and 4 of the chapter.
func TestFailureExample(t *testing.T) {
	steps(t, behindCommand, []step{
		{event: "fail 6", state: "6 3 5 0 1 -1 0 2 1|0 1||"},
		{event: "recover 20 1", state: "20 0 20 1 -1 -1 1 2 1||1|"},
	})
	steps(t, "3 0 0 0 -1 -1 0 2 1|0 1||", []step{
		{event: "prepare 4 2", e: api.ErrMissing},
	})
	steps(t, behindCommand, []step{
		{event: "fail 6", state: "6 3 5 0 1 -1 0 2 1|0 1||"},
		{event: "pass 104", state: "104 3 5 0 1 -1 0 2 1|0 1||"},
		{event: "pass 105", state: "105 0 105 0 -1 -1 0 2 1|1||"},
	})
	due, e := move.DueOf(exampleNetwork(), stateOf("6 3 5 0 1 -1 0 2 1|0 1||"))
	expect(t, "DueOf", due, e, 105, api.OK)
}

// TestMoreExactly is the list of what the chapter says more exactly, as far as it is of events.
func TestMoreExactly(t *testing.T) {
	steps(t, "7 2 5 0 1 -1 0 2 1||0 1|", []step{ // what was forwarded is not lost
		{event: "fail 8", state: "8 3 5 0 1 -1 0 2 1||0 1|"},
		{event: "recover 9 0", state: "9 0 9 0 -1 -1 0 2 1|1||"},
	})
	steps(t, "8 0 8 1 -1 0 0 2 1||0 1|", []step{ // new packets go to the old cell, then to the serving one, which has to wait
		{event: "data 8", state: "8 0 8 1 -1 0 0 3 1|2|0 1|"},
		{event: "data 8", state: "8 0 8 1 -1 0 0 4 1|2 3|0 1|"},
		{event: "switch 9", state: "9 0 8 1 -1 0 1 4 1|2 3|0 1|"},
		{event: "data 9", state: "9 0 8 1 -1 0 1 5 1|2 3|0 1 4|"},
		{event: "ack 9", state: "9 0 8 1 -1 0 1 5 1|2 3|1 4|"},
		{event: "send 9", state: "9 0 8 1 -1 0 1 5 2|2 3|1 4|"},
		{event: "ack 9", state: "9 0 8 1 -1 0 1 5 2|2 3|4|"},
		{event: "send 9", e: api.ErrGap},
		{event: "forward 10", state: "10 0 8 1 -1 0 1 5 2|3|2 4|"},
		{event: "send 10", state: "10 0 8 1 -1 0 1 5 3|3|2 4|"},
		{event: "ack 10", state: "10 0 8 1 -1 0 1 5 3|3|4|"},
		{event: "send 10", e: api.ErrGap},
		{event: "forward 11", state: "11 0 8 1 -1 -1 1 5 3||3 4|"},
		{event: "send 11", state: "11 0 8 1 -1 -1 1 5 4||3 4|"},
		{event: "send 11", state: "11 0 8 1 -1 -1 1 5 4||3 4|"}, // sent twice, taken once
		{event: "ack 11", state: "11 0 8 1 -1 -1 1 5 4||4|"},
		{event: "send 11", state: "11 0 8 1 -1 -1 1 5 5||4|"},
		{event: "ack 11", state: "11 0 8 1 -1 -1 1 5 5|||"},
		{event: "ack 11", state: "11 0 8 1 -1 -1 1 5 5|||"},
		{event: "send 11", e: api.ErrNone},
	})
	steps(t, "9 3 5 0 1 -1 0 3 1|0 1 2||", []step{ // back to a cell without any packet
		{event: "recover 10 1", state: "10 0 10 1 -1 -1 1 3 1||1 2|"},
	})
	steps(t, "9 0 5 0 -1 -1 0 0 0|||", []step{ // to a neighbour of a neighbour by two handovers
		{event: "prepare 9 2", e: api.ErrMissing},
		{event: "prepare 9 1", state: "9 1 9 0 1 -1 0 0 0|||"},
		{event: "command 9", state: "9 2 9 0 1 -1 0 0 0|||"},
		{event: "complete 9", state: "9 0 9 1 -1 0 0 0 0|||"},
		{event: "prepare 9 2", e: api.ErrBusy},
		{event: "switch 9", state: "9 0 9 1 -1 -1 1 0 0|||"},
		{event: "prepare 9 2", state: "9 1 9 1 2 -1 1 0 0|||"},
		{event: "command 9", state: "9 2 9 1 2 -1 1 0 0|||"},
		{event: "complete 9", state: "9 0 9 2 -1 1 1 0 0|||"},
		{event: "fail 10", state: "10 3 10 2 -1 1 1 0 0|||"},
		{event: "pass 110", state: "110 0 110 0 -1 -1 0 0 0|||"}, // or by being connected again
	})
	steps(t, "9 1 5 1 2 -1 1 1 0||0|", []step{ // served as before
		{event: "send 9", state: "9 1 5 1 2 -1 1 1 1||0|"},
		{event: "ack 10", state: "10 1 5 1 2 -1 1 1 1|||"},
		{event: "data 11", state: "11 1 5 1 2 -1 1 2 1||1|"},
		{event: "forward 11", e: api.ErrState},
		{event: "cancel 12", state: "12 0 12 1 -1 -1 1 2 1||1|"},
	})
}

// TestForward is of packets that are put among others, and of sources that are given up.
func TestForward(t *testing.T) {
	steps(t, "9 2 5 1 2 -1 1 9 3||2 4 6|3 5 7 8", []step{
		{event: "forward 9", state: "9 2 5 1 2 -1 1 9 3||4 6|2 3 5 7 8"},
		{event: "forward 9", state: "9 2 5 1 2 -1 1 9 3||6|2 3 4 5 7 8"},
		{event: "forward 9", state: "9 2 5 1 2 -1 1 9 3|||2 3 4 5 6 7 8"},
		{event: "forward 9", e: api.ErrNone},
		{event: "data 9", state: "9 2 5 1 2 -1 1 10 3||9|2 3 4 5 6 7 8"},
		{event: "forward 9", state: "9 2 5 1 2 -1 1 10 3|||2 3 4 5 6 7 8 9"},
		{event: "complete 9", state: "9 0 9 2 -1 1 1 10 3|||2 3 4 5 6 7 8 9"},
		{event: "forward 9", e: api.ErrNone},
		{event: "data 9", state: "9 0 9 2 -1 1 1 11 3||10|2 3 4 5 6 7 8 9"},
		{event: "forward 9", state: "9 0 9 2 -1 1 1 11 3|||2 3 4 5 6 7 8 9 10"}, // the path is not switched
		{event: "switch 9", state: "9 0 9 2 -1 -1 2 11 3|||2 3 4 5 6 7 8 9 10"},
		{event: "switch 9", e: api.ErrNone},
		{event: "forward 9", e: api.ErrState},
	})
	steps(t, "9 0 9 2 -1 1 1 8 3||4 6|3 5 7", []step{
		{event: "switch 9", state: "9 0 9 2 -1 1 2 8 3||4 6|3 5 7"},
		{event: "switch 9", e: api.ErrDouble},
		{event: "forward 9", state: "9 0 9 2 -1 1 2 8 3||6|3 4 5 7"},
		{event: "forward 9", state: "9 0 9 2 -1 -1 2 8 3|||3 4 5 6 7"},
	})
	steps(t, "9 0 9 2 -1 1 2 8 8||0|3 7", []step{ // also of what the phone has already
		{event: "forward 9", state: "9 0 9 2 -1 -1 2 8 8|||0 3 7"},
	})
}

// TestTimePasses is of phones that are out, at the time at which they are connected again, and ahead of it.
func TestTimePasses(t *testing.T) {
	for _, x := range []struct{ from, event, state string }{
		{"9 2 5 1 2 -1 1 9 3||2 4 6|3 5 7 8", "pass 104", "104 2 5 1 2 -1 1 9 3||2 4 6|3 5 7 8"},
		{"9 2 5 1 2 -1 1 9 3||2 4 6|3 5 7 8", "pass 105", "105 0 105 0 -1 -1 0 9 3|3 4 5 6 7 8||"},
		{"9 2 5 1 2 -1 1 9 3||2 4 6|3 5 7 8", "pass 999", "999 0 105 0 -1 -1 0 9 3|3 4 5 6 7 8||"},
		{"9 2 5 1 2 -1 1 9 3||2 4 6|3 5 7 8", "complete 104", "104 0 104 2 -1 1 1 9 3||2 4 6|3 5 7 8"},
		{"9 2 5 1 2 -1 1 9 3||2 4 6|3 5 7 8", "data 105", "105 0 105 0 -1 -1 0 10 3|3 4 5 6 7 8 9||"},
		{"9 2 5 1 2 -1 1 9 3||2 4 6|3 5 7 8", "data 104", "104 2 5 1 2 -1 1 10 3||2 4 6 9|3 5 7 8"},
		{"9 2 5 1 2 -1 1 9 3||2 4 6|3 5 7 8", "send 105", "105 0 105 0 -1 -1 0 9 4|3 4 5 6 7 8||"},
		{"9 2 5 1 2 -1 1 9 3||2 4 6|3 5 7 8", "fail 104", "104 3 5 1 2 -1 1 9 3||2 4 6|3 5 7 8"},
		{"9 2 5 1 2 -1 1 9 3||2 4 6|3 5 7 8", "fail 105", "105 3 105 0 -1 -1 0 9 3|3 4 5 6 7 8||"},
		{"9 2 5 1 2 -1 1 9 3||2 4 6|3 5 7 8", "prepare 106 1", "106 1 106 0 1 -1 0 9 3|3 4 5 6 7 8||"},
		{"9 3 5 1 -1 0 1 4 2|2|3|", "recover 104 0", "104 0 104 0 -1 -1 0 4 2|2 3||"},
		{"9 3 5 1 -1 0 1 4 2|2|3|", "recover 104 1", "104 0 104 1 -1 -1 1 4 2||2 3|"},
		{"9 3 5 1 -1 0 1 4 2|2|3|", "data 104", "104 3 5 1 -1 0 1 5 2|2|3 4|"},
		{"9 3 5 1 -1 0 0 4 2|2|3|", "data 104", "104 3 5 1 -1 0 0 5 2|2 4|3|"},
		{"9 3 5 1 -1 0 0 4 2|2|3|", "pass 105", "105 0 105 0 -1 -1 0 4 2|2 3||"},
		{"9 3 5 1 -1 0 0 4 4|2|3|", "pass 105", "105 0 105 0 -1 -1 0 4 4|||"},
		{"9 3 5 1 2 -1 1 4 0||0 3|1 2", "recover 9 2", "9 0 9 2 -1 -1 2 4 0|||0 1 2 3"},
		{"9 0 5 1 -1 0 0 4 2|2|3|", "pass 105", "105 0 5 1 -1 0 0 4 2|2|3|"},
		{"9 1 5 1 2 -1 1 4 2||2 3|", "pass 105", "105 1 5 1 2 -1 1 4 2||2 3|"},
		{"9 0 5 1 -1 0 0 4 2|2|3|", "fail 9", "9 3 9 1 -1 0 0 4 2|2|3|"},
		{"9 1 5 1 2 -1 1 4 2||2 3|", "fail 20", "20 3 20 1 2 -1 1 4 2||2 3|"},
		{"9 2 5 1 2 -1 1 4 2||2 3|", "fail 20", "20 3 5 1 2 -1 1 4 2||2 3|"},
		{"999999999 3 999999950 1 -1 -1 1 1 0||0|", "pass 1000000000", "1000000000 3 999999950 1 -1 -1 1 1 0||0|"},
		{"999999999 3 999999900 1 -1 -1 1 1 0||0|", "pass 1000000000", "1000000000 0 1000000000 0 -1 -1 0 1 0|0||"},
		{"9 3 5 1 -1 -1 1 60 59||" + run(0, 59) + "|", "data 105", "105 0 105 0 -1 -1 0 61 59|59 60||"}, // there is room again
		{"9 0 0 0 -1 -1 0 999999 999999|||", "data 9", "9 0 0 0 -1 -1 0 1000000 999999|999999||"},
		{"9 0 0 0 -1 -1 0 59 0|" + run(0, 58) + "||", "data 9", "9 0 0 0 -1 -1 0 60 0|" + run(0, 59) + "||"},
	} {
		steps(t, x.from, []step{{event: x.event, state: x.state}})
	}
}

// TestRefused is of events that are refused, with the error that comes first.
func TestRefused(t *testing.T) {
	const (
		connected  = "9 0 5 1 -1 -1 1 4 2||2 3|"
		withSource = "9 0 5 1 -1 0 0 4 2|2|3|"
		switched   = "9 0 5 1 -1 0 1 4 2|2|3|"
		prepared   = "9 1 5 1 2 -1 1 4 2||2 3|"
		moving     = "9 2 5 1 2 -1 1 4 2||2 3|"
		lost       = "9 3 5 1 -1 -1 1 4 2||2 3|"
		lostTarget = "9 3 5 1 2 -1 1 4 2||3|2"
		lostSource = "9 3 5 1 -1 0 0 4 2|2|3|"
		lostLater  = "9 3 5 1 -1 0 1 4 2|2|3|"
		nothing    = "9 0 5 1 -1 -1 1 4 4|||"
	)
	full := "9 0 0 0 -1 -1 0 60 0|" + run(0, 59) + "||"
	for _, x := range []struct {
		from, events string
		e            api.Errno
	}{
		{connected, "data 8, send 8, ack 8, prepare 8 0, cancel 8, command 8, complete 8, forward 8, switch 8, fail 8, recover 8 1, pass 8", api.ErrOrder},
		{full, "data 9", api.ErrFull},
		{"9 0 0 1 -1 0 1 60 60|0 1|" + run(2, 59) + "|", "data 9", api.ErrFull},
		{"9 0 0 0 -1 -1 0 1000000 1000000|||", "data 9", api.ErrFull},
		{"9 3 0 0 -1 -1 0 1000000 1000000|||", "data 9, data 100", api.ErrFull},
		{"9 3 5 1 -1 -1 1 60 0||" + run(0, 59) + "|", "data 104, data 105", api.ErrFull},
		{moving, "send 9, send 104, ack 9", api.ErrState},
		{lost, "send 9, send 104, ack 9", api.ErrState},
		{lostTarget, "send 9", api.ErrState},
		{"9 2 5 1 2 -1 1 0 0|||", "send 9, ack 9", api.ErrState}, // ahead of ErrNone
		{nothing, "send 9", api.ErrNone},
		{"9 1 5 1 2 -1 1 4 4|||", "send 9", api.ErrNone},
		{"9 0 5 1 -1 0 0 4 2|2 3||", "send 9", api.ErrNone},
		{withSource, "send 9", api.ErrGap},
		{switched, "send 9", api.ErrGap},
		{prepared, "prepare 9 2, prepare 9 0, prepare 9 1", api.ErrState},
		{moving, "prepare 9 2, prepare 9 0, prepare 104 1", api.ErrState},
		{lost, "prepare 9 2, prepare 9 1", api.ErrState},
		{lostSource, "prepare 9 2, prepare 9 1", api.ErrState}, // ahead of ErrBusy
		{withSource, "prepare 9 2, prepare 9 0, prepare 9 1", api.ErrBusy},
		{switched, "prepare 9 2, prepare 9 1", api.ErrBusy},
		{connected, "prepare 9 1", api.ErrMissing},
		{"9 0 5 2 -1 -1 2 0 0|||", "prepare 9 0, prepare 9 2", api.ErrMissing},
		{"9 0 5 0 -1 -1 0 0 0|||", "prepare 9 0, prepare 9 2", api.ErrMissing},
		{moving, "prepare 105 2, prepare 105 0", api.ErrMissing}, // it is connected to the cell 0
		{connected, "cancel 9, command 9, complete 9", api.ErrState},
		{withSource, "cancel 9, command 9, complete 9", api.ErrState},
		{prepared, "complete 9, complete 105", api.ErrState},
		{moving, "cancel 9, command 9, complete 105, cancel 105, command 105", api.ErrState},
		{lost, "cancel 9, command 9, complete 9", api.ErrState},
		{lostTarget, "cancel 9, command 9, complete 9", api.ErrState},
		{connected, "forward 9", api.ErrState},
		{prepared, "forward 9", api.ErrState},
		{lost, "forward 9, forward 104, forward 105", api.ErrState},
		{lostTarget, "forward 9", api.ErrState},
		{lostSource, "forward 9, forward 105", api.ErrState},
		{lostLater, "forward 9", api.ErrState},
		{moving, "forward 105", api.ErrState},
		{nothing, "forward 9", api.ErrState},
		{"9 2 5 1 2 -1 1 4 2|||2 3", "forward 9, forward 104", api.ErrNone},
		{"9 2 5 1 2 -1 1 0 0|||", "forward 9", api.ErrNone},
		{"9 0 5 1 -1 0 0 4 2||2 3|", "forward 9", api.ErrNone},
		{connected, "switch 9", api.ErrNone},
		{prepared, "switch 9", api.ErrNone},
		{moving, "switch 9", api.ErrNone},
		{lost, "switch 9", api.ErrNone}, // ahead of ErrState
		{lostTarget, "switch 9", api.ErrNone},
		{lostSource, "switch 9, switch 104", api.ErrState},
		{lostLater, "switch 9", api.ErrState}, // ahead of ErrDouble
		{lostSource, "switch 105", api.ErrNone},
		{switched, "switch 9", api.ErrDouble},
		{lost, "fail 9, fail 104", api.ErrState},
		{lostTarget, "fail 9", api.ErrState},
		{connected, "recover 9 1, recover 9 0", api.ErrState},
		{withSource, "recover 9 0, recover 9 2", api.ErrState},
		{prepared, "recover 9 2, recover 9 0", api.ErrState},
		{moving, "recover 9 1, recover 9 2, recover 105 0", api.ErrState},
		{lost, "recover 105 1, recover 105 0", api.ErrState},
		{lost, "recover 9 0, recover 9 2", api.ErrMissing},
		{lostTarget, "recover 9 0", api.ErrMissing},
		{lostSource, "recover 9 2, recover 104 2", api.ErrMissing},
	} {
		for _, event := range strings.Split(x.events, ", ") {
			steps(t, x.from, []step{{event: event, e: x.e}})
		}
	}
}

// TestApply compares runs with a slow phone. Each state behind an event is right.
func TestApply(t *testing.T) {
	r := rand.New(rand.NewSource(85))
	seen := map[string]int{}
	for range 800 {
		n := randomNetwork(r)
		x := randomState(r, n)
		s := slowFrom(n, x)
		for range 60 {
			e := randomEvent(r, n, x, min(api.MaxTick, laterTime(r, n, x)))
			later, f := s.step(e)
			want := later.state()
			if f != api.OK {
				want = api.MoveState{}
			}
			got, g := move.Apply(n, x, e)
			expect(t, fmt.Sprint("Apply ", n, " ", move.FormatState(x), " ", e), got, g, want, f)
			seen[fmt.Sprint(e.Kind, " ", g)]++
			if f == api.OK {
				x, s = got, later
				h := move.CheckState(n, x)
				expect(t, fmt.Sprint("CheckState ", n, " ", move.FormatState(x)), h, h, api.OK, api.OK)
			}
		}
	}
	for kind, errors := range [api.MoveKinds][]api.Errno{
		api.MoveData:     {api.OK, api.ErrFull},
		api.MoveSend:     {api.OK, api.ErrState, api.ErrNone, api.ErrGap},
		api.MoveAck:      {api.OK, api.ErrState},
		api.MovePrepare:  {api.OK, api.ErrState, api.ErrBusy, api.ErrMissing},
		api.MoveCancel:   {api.OK, api.ErrState},
		api.MoveCommand:  {api.OK, api.ErrState},
		api.MoveComplete: {api.OK, api.ErrState},
		api.MoveForward:  {api.OK, api.ErrState, api.ErrNone},
		api.MoveSwitch:   {api.OK, api.ErrNone, api.ErrState, api.ErrDouble},
		api.MoveFail:     {api.OK, api.ErrState},
		api.MoveRecover:  {api.OK, api.ErrState, api.ErrMissing},
		api.MovePass:     {api.OK},
	} {
		for _, e := range errors {
			if count := seen[fmt.Sprint(kind, " ", e)]; count < 10 {
				t.Errorf("kind %d, error %d: %d times (%v)", kind, e, count, seen)
			}
		}
	}
}

// TestPossibleExamples is of a few states of the examples' network.
func TestPossibleExamples(t *testing.T) {
	for _, x := range []struct {
		text   string
		at     int
		events string
	}{
		{atBeginning, 0, "data, ack, prepare 1, fail, pass"},
		{"9 0 0 1 -1 -1 1 1 0||0|", 10, "data, send, ack, prepare 0, prepare 2, fail, pass"},
		{"9 0 0 1 -1 0 0 2 0|1|0|", 10, "data, send, ack, forward, switch, fail, pass"},
		{"9 1 0 1 0 -1 1 1 0||0|", 10, "data, send, ack, cancel, command, fail, pass"},
		{"9 2 0 1 0 -1 1 1 0||0|", 10, "data, complete, forward, fail, pass"},
		{"9 2 0 1 0 -1 1 1 0|0||", 10, "data, complete, fail, pass"},
		{"9 3 0 1 0 -1 1 1 0||0|", 99, "data, recover 0, recover 1, pass"},
		{"9 3 0 1 0 -1 1 1 0||0|", 100, "data, send, ack, prepare 1, fail, pass"},
		{"9 3 0 1 -1 2 1 1 0|||0", 9, "data, recover 1, recover 2, pass"},
		{"9 3 0 1 -1 -1 1 1000000 1000000|||", 9, "recover 1, pass"},
		{atBeginning, 1000000000, "data, ack, prepare 1, fail, pass"},
	} {
		var want []api.MoveEvent
		for _, text := range strings.Split(x.events, ", ") {
			word, cell, namesCell := strings.Cut(text, " ")
			if namesCell {
				cell = " " + cell
			}
			want = append(want, eventOf(fmt.Sprint(word, " ", x.at, cell)))
		}
		got, e := move.Possible(exampleNetwork(), stateOf(x.text), x.at)
		expect(t, fmt.Sprint("Possible ", x.text, " at ", x.at), got, e, want, api.OK)
	}
}

// TestPossible tries all events.
func TestPossible(t *testing.T) {
	r := rand.New(rand.NewSource(86))
	seen := map[int]int{}
	for range 800 {
		n := randomNetwork(r)
		x := randomState(r, n)
		at := min(api.MaxTick, laterTime(r, n, x))
		var want []api.MoveEvent
		for kind := -1; kind <= api.MoveKinds; kind++ {
			for cell := -1; cell <= len(n.Cells); cell++ {
				e := api.MoveEvent{Kind: kind, At: at, Cell: cell}
				if _, f := move.Apply(n, x, e); f == api.OK {
					want = append(want, e)
				}
			}
		}
		got, e := move.Possible(n, x, at)
		expect(t, fmt.Sprint("Possible ", n, " ", move.FormatState(x), " at ", at), got, e, want, api.OK)
		for _, e := range got {
			seen[e.Kind]++
		}
		isAscending := slices.IsSortedFunc(got, func(a, b api.MoveEvent) int { return 10*(a.Kind-b.Kind) + a.Cell - b.Cell })
		if !isAscending {
			t.Errorf("%v do not ascend", got)
		}
	}
	for kind := range api.MoveKinds {
		if seen[kind] < 30 {
			t.Errorf("%d events of the kind %d", seen[kind], kind)
		}
	}
}
