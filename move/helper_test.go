package move_test

import (
	"fmt"
	"math/rand"
	"reflect"
	"slices"
	"testing"

	"downtilt/api"
	"downtilt/move"
)

// same compares results as they are printed: so a nil list and an empty one are the same.
func same(a, b any) bool {
	return fmt.Sprintf("%T %v", a, a) == fmt.Sprintf("%T %v", b, b)
}

// expect compares a result and its error with what they should be.
func expect(t *testing.T, what string, got any, e api.Errno, want any, f api.Errno) {
	t.Helper()
	if !same(got, want) || e != f {
		t.Errorf("%s: %v, error %d; want %v, error %d", what, got, e, want, f)
	}
}

// must returns a result whose error is none.
func must[X any](x X, e api.Errno) X {
	if e != api.OK {
		panic(fmt.Sprint("error ", e))
	}
	return x
}

// exampleNetwork is that of the chapter's examples.
func exampleNetwork() api.MoveNetwork {
	return api.MoveNetwork{Cells: []string{"a", "b", "c"}, Neighbours: [][2]int{{0, 1}, {1, 2}}, Limit: 100}
}

// stateOf is the state with a text.
func stateOf(text string) api.MoveState {
	return must(move.ParseState(text))
}

// eventOf is the event with a text.
func eventOf(text string) api.MoveEvent {
	return must(move.ParseEvent(text))
}

// logOf is events with texts.
func logOf(texts ...string) []api.MoveEvent {
	var l []api.MoveEvent
	for _, text := range texts {
		l = append(l, eventOf(text))
	}
	return l
}

// exampleLog is the events of the example 2 of the chapter that are accepted.
func exampleLog() []api.MoveEvent {
	return logOf("data 1", "data 2", "send 3", "prepare 4 1", "command 5", "forward 6", "forward 7", "complete 8", "send 9", "ack 10", "send 11", "ack 12", "data 13", "switch 14", "data 15", "forward 17", "send 18")
}

// staysOf is stays, each one by its cell, and from when to when it took.
func staysOf(numbers ...int) []api.MoveStay {
	var l []api.MoveStay
	for stay := range slices.Chunk(numbers, 3) {
		l = append(l, api.MoveStay{Cell: stay[0], From: stay[1], To: stay[2]})
	}
	return l
}

// arguments are of all functions.
type arguments struct {
	Rule          api.MoveRule
	Serving       []int
	Neighbour     []int
	Levels        [][]int
	ServingNumber int
	Network       api.MoveNetwork
	Cell          int
	State         api.MoveState
	Event         api.MoveEvent
	At            int
	Log           []api.MoveEvent
	Stays         []api.MoveStay
	Within        int
	EventText     string
	StateText     string
}

// rightArguments are right for each function.
func rightArguments() arguments {
	return arguments{
		Rule:          api.MoveRule{Offset: 30, Hyst: 10, Trigger: 2},
		Serving:       []int{-900, -900, -900, -900, -900},
		Neighbour:     []int{-870, -855, -850, -855, -840},
		Levels:        [][]int{{-870, -855, -850, -855, -840}, {-900, -900, -900, -900, -900}, {-800, -800, -900, -800, -800}},
		ServingNumber: 1,
		Network:       exampleNetwork(),
		Cell:          0,
		State:         stateOf("20 2 15 1 2 -1 1 7 3||2 4 6|3 5"),
		Event:         eventOf("forward 25"),
		At:            25,
		Log:           exampleLog(),
		Stays:         staysOf(0, 0, 10, 1, 10, 14, 0, 14, 30),
		Within:        4,
		EventText:     "prepare 4 1",
		StateText:     "3 0 0 0 -1 -1 0 2 1|0 1||",
	}
}

// function is one of the package, with the results ahead of its error.
type function struct {
	name string
	call func(arguments) ([]any, api.Errno)
}

func functions() []function {
	type a = arguments
	type r = []any
	type e = api.Errno
	return []function{
		{"CheckRule", func(a a) (r, e) { return nil, move.CheckRule(a.Rule) }},
		{"FirstTrigger", func(a a) (r, e) { return one(move.FirstTrigger(a.Rule, a.Serving, a.Neighbour)) }},
		{"Triggers", func(a a) (r, e) { return one(move.Triggers(a.Rule, a.Serving, a.Neighbour)) }},
		{"Strongest", func(a a) (r, e) { return one(move.Strongest(a.Rule, a.Levels, a.ServingNumber)) }},
		{"CheckNetwork", func(a a) (r, e) { _, e := move.CheckNetwork(a.Network); return nil, e }},
		{"Begin", func(a a) (r, e) { return one(move.Begin(a.Network, a.Cell)) }},
		{"CheckState", func(a a) (r, e) { return nil, move.CheckState(a.Network, a.State) }},
		{"CheckEvent", func(a a) (r, e) { return nil, move.CheckEvent(a.Network, a.Event) }},
		{"Apply", func(a a) (r, e) { return one(move.Apply(a.Network, a.State, a.Event)) }},
		{"Replay", func(a a) (r, e) { return withoutNumber(move.Replay(a.Network, a.Cell, a.Log)) }},
		{"Possible", func(a a) (r, e) { return one(move.Possible(a.Network, a.State, a.At)) }},
		{"Received", func(a a) (r, e) { return one(move.Received(a.Network, a.Cell, a.Log)) }},
		{"Waiting", func(a a) (r, e) { return one(move.Waiting(a.Network, a.State)) }},
		{"DueOf", func(a a) (r, e) { return one(move.DueOf(a.Network, a.State)) }},
		{"Stays", func(a a) (r, e) { return one(move.Stays(a.Network, a.Cell, a.Log)) }},
		{"PingPongs", func(a a) (r, e) { return one(move.PingPongs(a.Network, a.Stays, a.Within)) }},
		{"LongestOutage", func(a a) (r, e) { return one(move.LongestOutage(a.Network, a.Cell, a.Log)) }},
		{"FormatEvent", func(a a) (r, e) { return r{move.FormatEvent(a.Event)}, api.OK }},
		{"ParseEvent", func(a a) (r, e) { return one(move.ParseEvent(a.EventText)) }},
		{"FormatState", func(a a) (r, e) { return r{move.FormatState(a.State)}, api.OK }},
		{"ParseState", func(a a) (r, e) { return one(move.ParseState(a.StateText)) }},
	}
}

func one[X any](x X, e api.Errno) ([]any, api.Errno) {
	return []any{x}, e
}

// withoutNumber leaves out the number of an event, which stands beside an error.
func withoutNumber(x api.MoveState, _ int, e api.Errno) ([]any, api.Errno) {
	return []any{x}, e
}

// mistake is a change that makes right arguments wrong: which of them, and the error of that.
type mistake struct {
	touches string
	change  func(*arguments)
	e       api.Errno
}

// wrong is a value that is not right, and its error.
type wrong[X any] struct {
	x X
	e api.Errno
}

// mistakes puts values that are not right into an argument.
func mistakes[X any](touches string, at func(*arguments) *X, all []wrong[X]) []mistake {
	var l []mistake
	for _, w := range all {
		l = append(l, mistake{touches, func(a *arguments) { *at(a) = w.x }, w.e})
	}
	return l
}

// checkErrors makes right arguments wrong by each mistake, and by each two that touch different ones: the error of the earlier one comes, and beside it nothing.
func checkErrors(t *testing.T, name string, all ...[]mistake) {
	t.Helper()
	f := functionOf(name)
	right, e := f.call(rightArguments())
	if e != api.OK {
		t.Fatalf("%s of right arguments: error %d", name, e)
	}
	list := slices.Concat(all...)
	for i, x := range list {
		for j, y := range list[i:] {
			if j > 0 && x.touches == y.touches {
				continue
			}
			a := rightArguments()
			y.change(&a)
			x.change(&a)
			results, e := f.call(a)
			if e != x.e || !areNothing(results) || len(results) != len(right) {
				t.Errorf("%s, mistakes %d (%s) and %d (%s): %v, error %d, want error %d", name, i, x.touches, i+j, y.touches, results, e, x.e)
			}
		}
	}
}

func functionOf(name string) function {
	all := functions()
	return all[slices.IndexFunc(all, func(f function) bool { return f.name == name })]
}

// areNothing tells whether all results are zero values, or empty lists.
func areNothing(results []any) bool {
	return !slices.ContainsFunc(results, func(x any) bool { return !isNothing(reflect.ValueOf(x)) })
}

func isNothing(v reflect.Value) bool {
	switch v.Kind() {
	case reflect.Slice:
		return v.Len() == 0
	case reflect.Struct:
		for i := range v.NumField() {
			if !isNothing(v.Field(i)) {
				return false
			}
		}
		return true
	}
	return v.IsZero()
}

// upTo is a number from 0 to most, often an end.
func upTo(r *rand.Rand, most int) int {
	switch r.Intn(6) {
	case 0:
		return 0
	case 1:
		return most
	}
	return r.Intn(most + 1)
}

// randomRule often has small numbers, so that neighbours trigger.
func randomRule(r *rand.Rand) api.MoveRule {
	if r.Intn(8) == 0 {
		return api.MoveRule{Offset: upTo(r, 600) - 300, Hyst: upTo(r, 300), Trigger: upTo(r, 40)}
	}
	return api.MoveRule{Offset: r.Intn(5) - 2, Hyst: r.Intn(3), Trigger: r.Intn(4)}
}

// randomLevels are of several cells, and often about the same.
func randomLevels(r *rand.Rand, cells int) [][]int {
	ticks, base, spread := upTo(r, 60), upTo(r, 2990)-1995, 1+r.Intn(5)
	var l [][]int
	for range cells {
		var levels []int
		for range ticks {
			levels = append(levels, base+r.Intn(2*spread+1)-spread)
		}
		l = append(l, levels)
	}
	return l
}

// randomNetwork is often one in which phones are soon connected again.
func randomNetwork(r *rand.Rand) api.MoveNetwork {
	n := api.MoveNetwork{Limit: 1 + upTo(r, []int{4, 20, 99999}[r.Intn(3)])}
	cells := 1 + upTo(r, 5)
	for i := range cells {
		n.Cells = append(n.Cells, fmt.Sprint("cell-", i))
	}
	for b := range cells {
		for a := range b {
			if r.Intn(3) > 0 {
				n.Neighbours = append(n.Neighbours, [2]int{a, b})
			}
		}
	}
	r.Shuffle(len(n.Neighbours), func(i, j int) { n.Neighbours[i], n.Neighbours[j] = n.Neighbours[j], n.Neighbours[i] })
	return n
}

// likelyKinds is kinds of events that lead a phone on.
func likelyKinds(x api.MoveState) []int {
	switch {
	case x.Phase == api.MovePrepared:
		return []int{api.MoveData, api.MoveSend, api.MoveCommand, api.MoveCommand}
	case x.Phase == api.MoveMoving:
		return []int{api.MoveData, api.MoveForward, api.MoveComplete}
	case x.Phase == api.MoveLost:
		return []int{api.MoveData, api.MoveRecover}
	case x.Source != api.MoveNone:
		return []int{api.MoveData, api.MoveData, api.MoveSend, api.MoveAck, api.MoveForward, api.MoveSwitch}
	}
	return []int{api.MoveData, api.MoveSend, api.MoveAck, api.MovePrepare, api.MovePrepare}
}

// randomEvent is one that is often possible.
func randomEvent(r *rand.Rand, n api.MoveNetwork, x api.MoveState, at int) api.MoveEvent {
	e := api.MoveEvent{At: at, Kind: r.Intn(api.MoveKinds)}
	if likely := likelyKinds(x); r.Intn(3) > 0 {
		e.Kind = likely[r.Intn(len(likely))]
	}
	switch e.Kind {
	case api.MovePrepare:
		e.Cell = r.Intn(len(n.Cells))
	case api.MoveRecover:
		e.Cell = max(0, []int{x.Serving, x.Target, x.Source, r.Intn(len(n.Cells))}[r.Intn(4)])
	}
	return e
}

// laterTime is a time soon behind that of a state, often the same, or about that at which a lost phone is connected again.
func laterTime(r *rand.Rand, n api.MoveNetwork, x api.MoveState) int {
	switch r.Intn(8) {
	case 0, 1, 2, 3:
		return x.At
	case 4:
		return max(x.At, x.Since+n.Limit-1+r.Intn(3))
	}
	return x.At + r.Intn(3)
}

// randomLog is accepted from the beginning on. Some have much data.
func randomLog(r *rand.Rand, n api.MoveNetwork, cell int) []api.MoveEvent {
	x := must(move.Begin(n, cell))
	isFull := r.Intn(4) == 0
	var l []api.MoveEvent
	for range r.Intn([]int{30, 120, 400}[r.Intn(3)]) {
		e := randomEvent(r, n, x, laterTime(r, n, x))
		if isFull && r.Intn(3) > 0 {
			e = api.MoveEvent{Kind: api.MoveData, At: x.At}
		}
		if next, f := move.Apply(n, x, e); f == api.OK && len(l) < api.MaxMoveEvents {
			x, l = next, append(l, e)
		}
	}
	return l
}

// randomState is one behind a log. Some are at the end of all times, or of all numbers of packets.
func randomState(r *rand.Rand, n api.MoveNetwork) api.MoveState {
	cell := r.Intn(len(n.Cells))
	x, _, e := move.Replay(n, cell, randomLog(r, n, cell))
	if r.Intn(8) == 0 {
		later := api.MaxTick - r.Intn(3) - x.At
		x.At, x.Since = x.At+later, x.Since+later
	}
	if r.Intn(8) == 0 {
		more := api.MaxMoveNumber - r.Intn(3) - x.Fresh
		x.Fresh, x.Got = x.Fresh+more, x.Got+more
		for _, buffer := range x.Buffers {
			for i := range buffer {
				buffer[i] += more
			}
		}
	}
	return must(x, e)
}

// randomStays go together.
func randomStays(r *rand.Rand, n api.MoveNetwork) []api.MoveStay {
	var l []api.MoveStay
	at, cell := upTo(r, 1000), r.Intn(len(n.Cells))
	for range r.Intn(30) {
		stay := api.MoveStay{Cell: cell, From: at, To: at + r.Intn(5)}
		l = append(l, stay)
		at = stay.To
		for cell == stay.Cell && len(n.Cells) > 1 {
			cell = r.Intn(len(n.Cells))
		}
		if len(n.Cells) == 1 {
			break
		}
	}
	return l
}
