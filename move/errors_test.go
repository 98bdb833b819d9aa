package move_test

import (
	"fmt"
	"math"
	"slices"
	"strings"
	"testing"

	"downtilt/api"
	"downtilt/move"
)

// wrongInts is numbers that are beyond a range.
func wrongInts(lo, hi int, e api.Errno) []wrong[int] {
	return []wrong[int]{{lo - 1, e}, {hi + 1, e}, {math.MinInt, e}, {math.MaxInt, e}}
}

// beyond is mistakes of a number that is beyond a range.
func beyond(touches string, at func(*arguments) *int, lo, hi int, e api.Errno) []mistake {
	return mistakes(touches, at, wrongInts(lo, hi, e))
}

func ruleErrors() []mistake {
	return slices.Concat(
		beyond("offset", func(a *arguments) *int { return &a.Rule.Offset }, -300, 300, api.ErrRange),
		beyond("hyst", func(a *arguments) *int { return &a.Rule.Hyst }, 0, 300, api.ErrRange),
		beyond("trigger", func(a *arguments) *int { return &a.Rule.Trigger }, 0, 40, api.ErrRange))
}

func TestErrorsOfRules(t *testing.T) {
	checkErrors(t, "CheckRule", ruleErrors())
	for _, r := range []api.MoveRule{{}, {Offset: -300}, {Offset: 300, Hyst: 300, Trigger: 40}} {
		e := move.CheckRule(r)
		expect(t, fmt.Sprint("CheckRule ", r), e, e, api.OK, api.OK)
	}
}

// pair is the levels of the serving cell and a neighbour.
type pair struct{ serving, neighbour []int }

// wrongPairs are levels that are wrong, alone or together.
func wrongPairs() []wrong[pair] {
	five := []int{1, 2, 3, 4, 5}
	long := make([]int, 61)
	with := func(at, level int) []int {
		l := slices.Clone(five)
		l[at] = level
		return l
	}
	l := []wrong[pair]{
		{pair{five, five[:4]}, api.ErrShape},
		{pair{five[:4], five}, api.ErrShape},
		{pair{nil, five}, api.ErrShape},
		{pair{five, nil}, api.ErrShape},
		{pair{long, long[:60]}, api.ErrShape},
		{pair{with(0, 2000), five[:4]}, api.ErrShape},
		{pair{five, make([]int, 1<<20)}, api.ErrShape},
		{pair{long, long}, api.ErrLarge},
		{pair{long, slices.Repeat([]int{2000}, 61)}, api.ErrLarge},
		{pair{slices.Repeat([]int{2000}, 61), long}, api.ErrLarge},
	}
	for _, at := range []int{0, 3, 4} {
		for _, level := range []int{-2001, 1001, math.MinInt, math.MaxInt} {
			l = append(l, wrong[pair]{pair{with(at, level), five}, api.ErrRange}, wrong[pair]{pair{five, with(at, level)}, api.ErrRange})
		}
	}
	return l
}

func TestErrorsOfLevels(t *testing.T) {
	var levels []mistake
	for _, w := range wrongPairs() {
		levels = append(levels, mistake{"levels", func(a *arguments) { a.Serving, a.Neighbour = w.x.serving, w.x.neighbour }, w.e})
	}
	checkErrors(t, "Triggers", ruleErrors(), levels)
	none := mistakes("levels", func(a *arguments) *[]int { return &a.Neighbour }, []wrong[[]int]{{[]int{-900, -900, -855, -850, -860}, api.ErrNone}, {[]int{-2000, -2000, -2000, -2000, -2000}, api.ErrNone}})
	checkErrors(t, "FirstTrigger", ruleErrors(), levels, none)
	ends := []int{-2000, 1000, -2000}
	ticks, e := move.Triggers(api.MoveRule{}, ends, []int{-2000, 1000, 1000})
	expect(t, "levels at the ends", ticks, e, []int{2}, api.OK)
}

func TestErrorsOfStrongest(t *testing.T) {
	right, other := []int{-900, -900, -900, -900, -900}, []int{-870, -855, -850, -855, -840}
	cells := mistakes("levels", func(a *arguments) *[][]int { return &a.Levels }, []wrong[[][]int]{
		{nil, api.ErrShape},
		{[][]int{right, right, right, right, right, right, right}, api.ErrLarge},
		{make([][]int, 1<<20), api.ErrLarge},
		{[][]int{{9999}, right, right, right, right, right, right}, api.ErrLarge},
	})
	missing := slices.Concat(
		beyond("serving", func(a *arguments) *int { return &a.ServingNumber }, 0, 5, api.ErrMissing),
		mistakes("levels", func(a *arguments) *[][]int { return &a.Levels }, []wrong[[][]int]{{[][]int{right}, api.ErrMissing}, {[][]int{{9999}}, api.ErrMissing}}))
	var wrongs []wrong[[][]int]
	for _, w := range wrongPairs() {
		wrongs = append(wrongs, wrong[[][]int]{[][]int{w.x.neighbour, w.x.serving}, w.e})
		if len(w.x.serving) == 5 && slices.Max(w.x.serving) == 5 && slices.Min(w.x.serving) == 1 { // those of the serving cell are right: others come first
			wrongs = append(wrongs,
				wrong[[][]int]{[][]int{other, right, w.x.neighbour}, w.e},
				wrong[[][]int]{[][]int{other, right, other, w.x.neighbour, {1}, {9999}}, w.e})
		}
	}
	wrongs = append(wrongs, []wrong[[][]int]{
		{[][]int{{1}, right, {9999, 0, 0, 0, 0}}, api.ErrShape},
		{[][]int{{9999, 0, 0, 0, 0}, right, {1}}, api.ErrRange},
		{[][]int{right, {9999, 0, 0, 0, 0}, {1}}, api.ErrRange}, // the serving one with the first other one
		{[][]int{{1}, {9999, 0, 0, 0, 0}, right}, api.ErrShape},
	}...)
	levels := mistakes("levels", func(a *arguments) *[][]int { return &a.Levels }, wrongs)
	none := mistakes("levels", func(a *arguments) *[][]int { return &a.Levels }, []wrong[[][]int]{{[][]int{right, right}, api.ErrNone}, {[][]int{nil, nil, nil}, api.ErrNone}})
	checkErrors(t, "Strongest", ruleErrors(), cells, missing, levels, none)
	_, e := move.Strongest(api.MoveRule{}, [][]int{{9999}}, 0) // it is left out
	expect(t, "wrong levels of the only cell", e, e, api.ErrNone, api.ErrNone)
	for cells := 1; cells <= 6; cells++ {
		_, e := move.Strongest(api.MoveRule{}, make([][]int, cells), cells)
		expect(t, fmt.Sprint("one more than ", cells, " cells"), e, e, api.ErrMissing, api.ErrMissing)
	}
}

func networkErrors() []mistake {
	type names = []string
	type pairs = [][2]int
	return slices.Concat(
		mistakes("cells", func(a *arguments) *[]string { return &a.Network.Cells }, []wrong[[]string]{
			{nil, api.ErrShape},
			{strings.Split("a b c d e f g", " "), api.ErrLarge},
			{make(names, 7), api.ErrLarge},
			{names{"a", "", "c"}, api.ErrName},
			{names{"a", "1b", "c"}, api.ErrName},
			{names{"a", "b", "c d"}, api.ErrName},
			{names{"abcdefghijklm", "b", "c"}, api.ErrName},
			{names{"a", "b", "a"}, api.ErrExists},
			{names{"a", "a", ""}, api.ErrExists},
			{names{"a", "", "a"}, api.ErrName},
		}),
		mistakes("pairs", func(a *arguments) *[][2]int { return &a.Network.Neighbours }, []wrong[[][2]int]{
			{pairs{{0, 3}}, api.ErrMissing},
			{pairs{{-1, 0}}, api.ErrMissing},
			{pairs{{3, 0}}, api.ErrMissing},
			{pairs{{0, 1}, {math.MaxInt, math.MinInt}}, api.ErrMissing},
			{pairs{{1, 1}}, api.ErrOrder},
			{pairs{{0, 1}, {2, 1}}, api.ErrOrder},
			{pairs{{0, 1}, {1, 2}, {0, 1}}, api.ErrDouble},
		}),
		beyond("limit", func(a *arguments) *int { return &a.Network.Limit }, 1, 100000, api.ErrRange))
}

func cellErrors() []mistake {
	return beyond("cell", func(a *arguments) *int { return &a.Cell }, 0, 2, api.ErrMissing)
}

// stateErrors are those of the state of the right arguments, in groups that do not touch one another.
func stateErrors() []mistake {
	state := func(a *arguments) *api.MoveState { return &a.State }
	var whole []wrong[api.MoveState]
	for _, w := range []wrong[string]{
		{"20 0 15 1 2 -1 1 7 7|||", api.ErrForm},
		{"20 1 15 1 -1 -1 1 7 7|||", api.ErrForm},
		{"20 2 15 1 2 -1 2 7 7|||", api.ErrForm},
		{"20 2 15 0 2 -1 0 7 7|||", api.ErrClash},
		{"20 2 15 1 1 -1 1 7 7|||", api.ErrClash},
		{"20 0 15 1 -1 0 1 7 7|||", api.ErrState},
		{"20 2 15 1 2 -1 1 7 7||" + run(0, 60) + "|", api.ErrLarge},
		{"20 2 15 1 2 -1 1 7 7||7|", api.ErrRange},
		{"20 2 15 1 2 -1 1 7 7||5 4|", api.ErrOrder},
		{"20 2 15 1 2 -1 1 7 7||5|5", api.ErrDouble},
		{"20 2 15 1 2 -1 1 7 7|5||", api.ErrOpen},
		{"20 1 15 1 2 -1 1 7 7|||5", api.ErrOpen},
		{"20 2 15 1 2 -1 1 7 6||5|", api.ErrGap},
	} {
		whole = append(whole, wrong[api.MoveState]{stateOf(w.x), w.e})
	}
	return slices.Concat(
		mistakes("buffers", func(a *arguments) *[][]int { return &a.State.Buffers }, []wrong[[][]int]{
			{nil, api.ErrShape},
			{make([][]int, 2), api.ErrShape},
			{make([][]int, 4), api.ErrShape},
			{[][]int{{-1}}, api.ErrShape},
		}),
		beyond("phase", func(a *arguments) *int { return &a.State.Phase }, 0, 3, api.ErrKind),
		beyond("time", func(a *arguments) *int { return &a.State.At }, 0, api.MaxTick, api.ErrRange),
		beyond("since", func(a *arguments) *int { return &a.State.Since }, 0, 20, api.ErrRange),
		beyond("fresh", func(a *arguments) *int { return &a.State.Fresh }, 0, 1000000, api.ErrRange),
		beyond("got", func(a *arguments) *int { return &a.State.Got }, 0, 7, api.ErrRange),
		beyond("serving", func(a *arguments) *int { return &a.State.Serving }, 0, 2, api.ErrMissing),
		beyond("path", func(a *arguments) *int { return &a.State.Path }, 0, 2, api.ErrMissing),
		beyond("target", func(a *arguments) *int { return &a.State.Target }, -1, 2, api.ErrMissing),
		beyond("source", func(a *arguments) *int { return &a.State.Source }, -1, 2, api.ErrMissing),
		mistakes("state", state, whole))
}

func eventErrors() []mistake {
	event := func(a *arguments) *api.MoveEvent { return &a.Event }
	var cells []wrong[api.MoveEvent]
	for kind := range api.MoveKinds {
		for _, cell := range []int{-1, 1, 2, 3, math.MinInt, math.MaxInt} {
			e := api.MoveEvent{Kind: kind, At: 25, Cell: cell}
			switch {
			case kind != api.MovePrepare && kind != api.MoveRecover:
				cells = append(cells, wrong[api.MoveEvent]{e, api.ErrForm})
			case cell < 0 || cell > 2:
				cells = append(cells, wrong[api.MoveEvent]{e, api.ErrMissing})
			}
		}
	}
	return slices.Concat(
		beyond("kind of the event", func(a *arguments) *int { return &a.Event.Kind }, 0, 11, api.ErrKind),
		beyond("time of the event", func(a *arguments) *int { return &a.Event.At }, 0, api.MaxTick, api.ErrRange),
		mistakes("event", event, cells))
}

func TestErrorsOfStates(t *testing.T) {
	checkErrors(t, "CheckNetwork", networkErrors())
	checkErrors(t, "Begin", networkErrors(), cellErrors())
	checkErrors(t, "CheckState", networkErrors(), stateErrors())
	checkErrors(t, "Waiting", networkErrors(), stateErrors())
	none := mistakes("state", func(a *arguments) *api.MoveState { return &a.State }, []wrong[api.MoveState]{
		{stateOf("20 0 5 1 -1 0 0 4 2|2|3|"), api.ErrNone},
		{stateOf("20 1 5 1 2 -1 1 4 2||2 3|"), api.ErrNone},
	})
	checkErrors(t, "DueOf", networkErrors(), stateErrors(), none)
}

func TestErrorsOfEvents(t *testing.T) {
	checkErrors(t, "CheckEvent", networkErrors(), eventErrors())
	for kind := range api.MoveKinds {
		for _, at := range []int{0, api.MaxTick} {
			for cell := range 3 {
				want := api.OK
				if cell > 0 && kind != api.MovePrepare && kind != api.MoveRecover {
					want = api.ErrForm
				}
				x := api.MoveEvent{Kind: kind, At: at, Cell: cell}
				e := move.CheckEvent(exampleNetwork(), x)
				expect(t, fmt.Sprint("CheckEvent ", x), e, e, want, want)
			}
		}
	}
	var refused []wrong[api.MoveEvent]
	for _, w := range []wrong[string]{
		{"forward 19", api.ErrOrder}, {"data 0", api.ErrOrder}, {"prepare 19 1", api.ErrOrder}, {"recover 19 0", api.ErrOrder}, {"pass 19", api.ErrOrder},
		{"send 25", api.ErrState}, {"ack 20", api.ErrState}, {"prepare 25 2", api.ErrState}, {"switch 25", api.ErrNone}, {"recover 25 1", api.ErrState},
	} {
		refused = append(refused, wrong[api.MoveEvent]{eventOf(w.x), w.e})
	}
	event := mistakes("event", func(a *arguments) *api.MoveEvent { return &a.Event }, refused)
	checkErrors(t, "Apply", networkErrors(), stateErrors(), eventErrors(), event)
	at := func(a *arguments) *int { return &a.At }
	early := mistakes("at", at, []wrong[int]{{19, api.ErrOrder}, {0, api.ErrOrder}})
	checkErrors(t, "Possible", networkErrors(), stateErrors(), beyond("at", at, 0, api.MaxTick, api.ErrRange), early)
}

func TestErrorsOfLogs(t *testing.T) {
	type list = []api.MoveEvent
	log := mistakes("log", func(a *arguments) *list { return &a.Log }, []wrong[list]{
		{make(list, 201), api.ErrLarge},
		{slices.Repeat(list{{Kind: -1}}, 201), api.ErrLarge},
		{list{{Kind: 12}}, api.ErrKind},
		{list{{Kind: 12, At: -1}}, api.ErrKind},
		{list{{At: -1}}, api.ErrRange},
		{list{{At: -1, Cell: 1}}, api.ErrRange},
		{list{{Cell: 1}}, api.ErrForm},
		{logOf("prepare 4 3"), api.ErrMissing},
		{logOf("pass 5", "pass 4"), api.ErrOrder},
		{logOf("pass 5", "send 5", "pass 4"), api.ErrNone},
		{logOf("complete 5"), api.ErrState},
	})
	for _, name := range []string{"Replay", "Received", "Stays", "LongestOutage"} {
		checkErrors(t, name, networkErrors(), cellErrors(), log)
	}
}

// TestNumberOfTheEvent looks at the number beside an error of events.
func TestNumberOfTheEvent(t *testing.T) {
	type list = []api.MoveEvent
	pass := logOf("pass 5")
	for _, x := range []struct {
		n    api.MoveNetwork
		cell int
		l    list
		want int
		e    api.Errno
	}{
		{api.MoveNetwork{Cells: []string{"a", ""}, Limit: 1}, 0, logOf("pass 5", "pass 4"), 0, api.ErrName},
		{exampleNetwork(), 3, logOf("pass 5", "pass 4"), 0, api.ErrMissing},
		{exampleNetwork(), 0, append(slices.Repeat(pass, 200), eventOf("pass 4")), 0, api.ErrLarge},
		{exampleNetwork(), 0, list{{At: -1}}, 0, api.ErrRange},
		{exampleNetwork(), 0, logOf("pass 5", "pass 4"), 1, api.ErrOrder},
		{exampleNetwork(), 0, logOf("pass 5", "data 5", "send 5", "prepare 5 2", "pass 4"), 3, api.ErrMissing},
		{exampleNetwork(), 0, append(slices.Repeat(pass, 199), eventOf("pass 4")), 199, api.ErrOrder},
		{exampleNetwork(), 0, slices.Repeat(pass, 200), 0, api.OK},
		{exampleNetwork(), 0, nil, 0, api.OK},
	} {
		state, number, e := move.Replay(x.n, x.cell, x.l)
		expect(t, fmt.Sprintf("Replay of %d events", len(x.l)), number, e, x.want, x.e)
		want := api.MoveState{}
		if e == api.OK {
			want = must(move.Begin(x.n, x.cell))
			want.At = 5 * min(1, len(x.l))
		}
		expect(t, "state behind them", state, e, want, x.e)
	}
}

func TestErrorsOfPingPongs(t *testing.T) {
	type list = []api.MoveStay
	stays := mistakes("stays", func(a *arguments) *list { return &a.Stays }, []wrong[list]{
		{make(list, 201), api.ErrLarge},
		{slices.Repeat(list{{Cell: -1}}, 201), api.ErrLarge},
		{staysOf(-1, 0, 5), api.ErrMissing},
		{staysOf(0, 0, 5, 3, 5, 6), api.ErrMissing},
		{staysOf(3, -1, -2), api.ErrMissing},
		{staysOf(0, -1, 5), api.ErrRange},
		{staysOf(0, -1, -2), api.ErrRange},
		{staysOf(0, 0, 5, 1, 5, api.MaxTick+1), api.ErrRange},
		{staysOf(0, 0, 5, 1, api.MaxTick+1, 6), api.ErrRange},
		{staysOf(0, math.MinInt, math.MaxInt), api.ErrRange},
		{staysOf(0, 0, math.MaxInt), api.ErrRange},
		{staysOf(0, 5, 4), api.ErrOrder},
		{staysOf(0, 0, 5, 1, 5, 4), api.ErrOrder},
		{staysOf(0, 0, 5, 1, 6, 7), api.ErrOrder},
		{staysOf(0, 0, 5, 1, 4, 7), api.ErrOrder},
		{staysOf(0, 0, 5, 0, 6, 7), api.ErrOrder}, // ahead of ErrDouble
		{staysOf(0, 0, 5, 0, 5, 4), api.ErrOrder},
		{staysOf(0, 0, 5, 0, 5, 7), api.ErrDouble},
		{staysOf(0, 0, 5, 1, 5, 7, 1, 7, 7), api.ErrDouble},
		{staysOf(0, 0, 5, 0, 5, 7, 3, 7, 7), api.ErrDouble},
		{staysOf(0, 0, 5, 3, 5, 7, 3, 7, 7), api.ErrMissing},
	})
	within := beyond("within", func(a *arguments) *int { return &a.Within }, 0, api.MaxTick, api.ErrRange)
	checkErrors(t, "PingPongs", networkErrors(), stays, within)
}
