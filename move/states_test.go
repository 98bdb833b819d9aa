package move_test

import (
	"fmt"
	"math"
	"math/rand"
	"strconv"
	"strings"
	"testing"

	"downtilt/api"
	"downtilt/move"
)

// run is the text of numbers from one to another one.
func run(from, to int) string {
	var words []string
	for n := from; n <= to; n++ {
		words = append(words, strconv.Itoa(n))
	}
	return strings.Join(words, " ")
}

// TestRightStates is of states of the examples' network, also at the ends of what they may be.
func TestRightStates(t *testing.T) {
	for _, text := range []string{
		"0 0 0 0 -1 -1 0 0 0|||",
		"20 0 0 2 -1 -1 2 0 0|||",
		"20 0 20 1 -1 -1 1 7 7||0 3 6|",               // packets that the phone has already
		"20 0 5 1 -1 0 0 4 2|2 3|0 1|",                // with a source, to which new packets go
		"20 0 5 1 -1 0 0 2 2||0 1|",                   // which has none any more
		"20 0 5 1 -1 0 1 4 2|2|3|",                    // to which no new packets go
		"20 0 5 1 -1 2 1 4 2||3|2",                    //
		"20 0 5 1 -1 0 1 4 2|0 2|3|",                  //
		"20 1 5 1 0 -1 1 4 2||2 3|",                   // prepared
		"20 2 5 1 0 -1 1 4 2|2|3|",                    // moving
		"20 2 5 1 2 -1 1 4 2||3|2",                    //
		"20 2 5 1 2 -1 1 4 2|||2 3",                   //
		"20 3 5 1 2 -1 1 4 2||3|2",                    // lost when it was moving
		"20 3 5 1 2 -1 1 4 2||2 3|",                   // lost when it was prepared
		"20 3 5 1 -1 0 0 4 2|2 3||",                   // lost with a source
		"20 3 5 1 -1 0 1 4 2|2|3|",                    //
		"20 3 5 1 -1 -1 1 4 2||2 3|",                  // lost without anything
		"104 3 5 1 -1 -1 1 0 0|||",                    // it is connected again at 105
		"104 2 5 1 2 -1 1 0 0|||",                     //
		"105 0 5 1 -1 -1 1 0 0|||",                    // it is connected
		"105 1 5 1 2 -1 1 0 0|||",                     //
		"1000000000 0 1000000000 0 -1 -1 0 0 0|||",    //
		"1000000000 3 999999901 0 -1 -1 0 0 0|||",     //
		"1000000000 0 0 0 -1 -1 0 1000000 1000000|||", //
		"9 0 0 0 -1 -1 0 1000000 999999|0 999999||",   //
		"9 0 0 0 -1 -1 0 60 0|" + run(0, 59) + "||",   // as many packets as there may be
		"9 0 0 1 -1 0 1 60 0|" + run(0, 58) + "|59|",  //
		"9 3 0 1 0 -1 1 70 20|" + run(30, 69) + "|" + run(10, 29) + "|",
	} {
		e := move.CheckState(exampleNetwork(), stateOf(text))
		expect(t, "CheckState "+text, e, e, api.OK, api.OK)
	}
}

// TestWrongStates is of states of the examples' network that are wrong in one way, or in several: the first error comes.
func TestWrongStates(t *testing.T) {
	for _, x := range []struct {
		text string
		e    api.Errno
	}{
		{"20 0 0 0 -1 -1 0 0 0||", api.ErrShape},
		{"20 0 0 0 -1 -1 0 0 0||||", api.ErrShape},
		{"-1 9 30 3 3 3 3 -1 9|1", api.ErrShape},
		{"-1 9 30 3 3 3 3 -1 9|1||", api.ErrKind},
		{"20 -1 0 0 -1 -1 0 0 0|||", api.ErrKind},
		{"20 4 0 0 -1 -1 0 0 0|||", api.ErrKind},
		{"-1 0 0 0 -1 -1 0 0 0|||", api.ErrRange},
		{"1000000001 0 0 0 -1 -1 0 0 0|||", api.ErrRange},
		{"20 0 21 0 -1 -1 0 0 0|||", api.ErrRange},
		{"20 0 -1 0 -1 -1 0 0 0|||", api.ErrRange},
		{"20 0 0 0 -1 -1 0 1000001 1000000|||", api.ErrRange},
		{"20 0 0 0 -1 -1 0 -1 0|||", api.ErrRange},
		{"20 0 0 0 -1 -1 0 -1 -1|||", api.ErrRange},
		{"20 0 0 0 -1 -1 0 5 6|||", api.ErrRange},
		{"20 0 0 0 -1 -1 0 5 -1|" + run(0, 4) + "||", api.ErrRange},
		{"20 0 0 3 3 3 3 5 6|9||", api.ErrRange},
		{"20 0 0 3 -1 -1 3 0 0|||", api.ErrMissing},
		{"20 0 0 -1 -1 -1 -1 0 0|||", api.ErrMissing},
		{"20 0 0 0 -1 -1 -1 0 0|||", api.ErrMissing},
		{"20 0 0 0 -1 -1 3 0 0|||", api.ErrMissing},
		{"20 1 0 0 3 -1 0 0 0|||", api.ErrMissing},
		{"20 1 0 0 -2 -1 0 0 0|||", api.ErrMissing},
		{"20 0 0 0 -1 3 3 0 0|||", api.ErrMissing},
		{"20 0 0 0 -1 -2 -2 0 0|||", api.ErrMissing},
		{"20 0 0 0 2 3 2 0 0|||", api.ErrMissing}, // ahead of the form
		{"20 0 0 1 2 -1 1 0 0|||", api.ErrForm},   // connected, with a target
		{"20 0 0 1 1 -1 1 0 0|||", api.ErrForm},
		{"20 0 0 1 2 0 1 0 0|||", api.ErrForm},
		{"20 1 0 1 -1 -1 1 0 0|||", api.ErrForm}, // prepared, moving without one
		{"20 2 0 1 -1 -1 1 0 0|||", api.ErrForm},
		{"20 1 0 1 2 0 1 1 0|0||", api.ErrForm}, // prepared, moving with a source
		{"20 2 0 1 2 0 1 1 0|0||", api.ErrForm},
		{"20 1 0 1 2 0 0 1 0|0||", api.ErrForm},
		{"20 1 0 1 -1 0 0 1 0|0||", api.ErrForm},
		{"20 3 0 1 2 0 0 1 0|0||", api.ErrForm}, // lost with both
		{"20 3 0 1 2 2 2 1 0|||0", api.ErrForm},
		{"20 0 0 1 -1 -1 0 0 0|||", api.ErrForm}, // a path elsewhere
		{"20 0 0 1 -1 0 2 1 0|0||", api.ErrForm},
		{"20 2 0 1 2 -1 2 0 0|||", api.ErrForm},
		{"20 3 0 1 2 -1 2 0 0|||", api.ErrForm},
		{"20 1 0 0 -1 2 1 0 0|||", api.ErrForm}, // ahead of the clash
		{"20 1 0 0 2 -1 0 0 0|||", api.ErrClash},
		{"20 2 0 0 0 -1 0 0 0|||", api.ErrClash},
		{"20 3 0 2 0 -1 2 0 0|||", api.ErrClash},
		{"20 0 0 0 -1 2 0 1 0|||0", api.ErrClash},
		{"20 0 0 0 -1 0 0 1 0|0||", api.ErrClash},
		{"20 0 0 0 -1 0 0 0 0|||", api.ErrClash}, // ahead of ErrState
		{"200 2 0 0 2 -1 0 0 0|||", api.ErrClash},
		{"200 3 0 0 -1 2 2 0 0|||", api.ErrClash},
		{"105 3 5 1 -1 -1 1 0 0|||", api.ErrState},
		{"106 3 5 1 -1 -1 1 0 0|||", api.ErrState},
		{"105 2 5 1 2 -1 1 0 0|||", api.ErrState},
		{"1000000000 2 0 1 2 -1 1 0 0|||", api.ErrState},
		{"20 0 5 1 -1 0 1 4 2||2 3|", api.ErrState}, // a source from which nothing comes any more
		{"20 3 5 1 -1 0 1 4 2||2 3|", api.ErrState},
		{"105 3 5 1 -1 -1 1 100 0|5 5|" + run(0, 60) + "|", api.ErrState}, // ahead of the packets
		{"9 0 0 0 -1 -1 0 61 0|" + run(0, 60) + "||", api.ErrLarge},
		{"9 0 0 0 -1 -1 0 61 0|" + run(0, 58) + "|59|60", api.ErrLarge},
		{"9 0 0 0 -1 -1 0 0 0|" + run(-60, 0) + "||", api.ErrLarge},
		{"9 0 0 0 -1 -1 0 5 5|-1||", api.ErrRange},
		{"9 0 0 0 -1 -1 0 5 5|5||", api.ErrRange},
		{"9 0 0 0 -1 -1 0 5 5|0 1 2 3 4 5||", api.ErrRange},
		{"9 0 0 0 -1 -1 0 0 0|0||", api.ErrRange},
		{"9 0 0 0 -1 -1 0 5 5|4 -1||", api.ErrRange}, // ahead of the order
		{"9 0 0 0 -1 -1 0 5 5|2 2||", api.ErrOrder},
		{"9 0 0 0 -1 -1 0 5 5|2 1||", api.ErrOrder},
		{"9 0 0 0 -1 -1 0 5 5|2 1 9|9|", api.ErrOrder},
		{"9 0 0 0 -1 -1 0 5 5|2 9 1|9|", api.ErrRange},
		{"9 0 0 0 -1 -1 0 5 5|2|2|", api.ErrDouble}, // ahead of what hangs together
		{"9 0 0 1 -1 0 1 5 5|0 2|1 2|", api.ErrDouble},
		{"9 0 0 1 -1 0 1 5 5|0 2 4|1 4 4|", api.ErrDouble},
		{"9 0 0 1 -1 0 1 5 5|0 2 4|3 2|", api.ErrOrder},
		{"9 0 0 1 -1 0 1 5 5|0 2 4|2 1|", api.ErrDouble},
		{"9 0 0 1 -1 0 1 5 5|0 2 4|2|9", api.ErrDouble},
		{"9 0 0 1 -1 0 1 5 5|0 2 4|9|2", api.ErrRange},
		{"9 0 0 1 -1 0 1 5 5|0|1|1", api.ErrDouble},
		{"9 0 0 1 -1 -1 1 5 5|0||", api.ErrOpen},
		{"9 0 0 1 -1 -1 1 5 5||0|1", api.ErrOpen},
		{"9 0 0 1 -1 0 0 5 5|0|1|2", api.ErrOpen},
		{"9 1 0 1 2 -1 1 5 5||0|1", api.ErrOpen}, // a target that is prepared has none
		{"9 2 0 1 2 -1 1 5 5|0||", api.ErrOpen},
		{"9 3 0 1 2 -1 1 5 5|0||", api.ErrOpen},
		{"9 3 0 1 -1 -1 1 5 5|0||", api.ErrOpen},
		{"9 3 0 1 -1 -1 1 5 0|0||", api.ErrOpen}, // ahead of the gap
		{"9 0 0 1 -1 -1 1 5 4|||", api.ErrGap},
		{"9 0 0 1 -1 -1 1 5 0||0 1 3 4|", api.ErrGap},
		{"9 0 0 1 -1 -1 1 5 0||1 2 3 4|", api.ErrGap},
		{"9 0 0 1 -1 -1 1 5 0||0 1 2 3|", api.ErrGap},
		{"9 0 0 1 -1 -1 1 5 2||0 1 3 4|", api.ErrGap},
		{"9 0 0 1 -1 -1 1 1000000 0|||", api.ErrGap},
		{"9 0 0 1 -1 -1 1 1000000 999998||999999|", api.ErrGap},
	} {
		e := move.CheckState(exampleNetwork(), stateOf(x.text))
		expect(t, "CheckState "+x.text, e, e, x.e, x.e)
		_, e = move.Apply(exampleNetwork(), stateOf(x.text), eventOf("pass 1000000000"))
		expect(t, "Apply "+x.text, e, e, x.e, x.e)
	}
	n := exampleNetwork()
	n.Limit = 1
	for text, want := range map[string]api.Errno{"5 3 5 1 -1 -1 1 0 0|||": api.OK, "6 3 5 1 -1 -1 1 0 0|||": api.ErrState} {
		e := move.CheckState(n, stateOf(text))
		expect(t, "CheckState "+text, e, e, want, want)
	}
}

// slowStateError goes through the chapter's list.
func slowStateError(n api.MoveNetwork, x api.MoveState) api.Errno {
	isCell := func(cell int) bool { return cell >= 0 && cell < len(n.Cells) }
	isNeighbour := func(cell int) bool {
		for _, pair := range n.Neighbours {
			if pair == [2]int{x.Serving, cell} || pair == [2]int{cell, x.Serving} {
				return true
			}
		}
		return false
	}
	hasTarget, hasSource := x.Target != -1, x.Source != -1
	isConnected, isPrepared, isMoving, isLost := x.Phase == 0, x.Phase == 1, x.Phase == 2, x.Phase == 3
	switch {
	case len(x.Buffers) != len(n.Cells):
		return api.ErrShape
	case !isConnected && !isPrepared && !isMoving && !isLost:
		return api.ErrKind
	case x.At < 0 || x.At > 1000000000 || x.Since < 0 || x.Since > x.At || x.Fresh < 0 || x.Fresh > 1000000 || x.Got < 0 || x.Got > x.Fresh:
		return api.ErrRange
	case !isCell(x.Serving) || !isCell(x.Path) || hasTarget && !isCell(x.Target) || hasSource && !isCell(x.Source):
		return api.ErrMissing
	case hasTarget && isConnected || !hasTarget && (isPrepared || isMoving) || hasSource && (isPrepared || isMoving || hasTarget) || x.Path != x.Serving && x.Path != x.Source:
		return api.ErrForm
	case hasTarget && !isNeighbour(x.Target) || hasSource && !isNeighbour(x.Source):
		return api.ErrClash
	case (isMoving || isLost) && x.Since+n.Limit <= x.At || hasSource && len(x.Buffers[x.Source]) == 0 && x.Path == x.Serving:
		return api.ErrState
	}
	return slowPacketsError(x)
}

func slowPacketsError(x api.MoveState) api.Errno {
	all := strings.Fields(strings.Trim(strings.NewReplacer("[", " ", "]", " ").Replace(fmt.Sprint(x.Buffers)), " "))
	if len(all) > 60 {
		return api.ErrLarge
	}
	held := make([]bool, min(x.Fresh, 2000000))
	for _, buffer := range x.Buffers {
		inThis := math.MinInt
		for _, number := range buffer {
			switch {
			case number < 0 || number >= x.Fresh:
				return api.ErrRange
			case number <= inThis:
				return api.ErrOrder
			case held[number]:
				return api.ErrDouble
			}
			held[number], inThis = true, number
		}
	}
	for cell, buffer := range x.Buffers {
		isTarget := cell == x.Target && x.Phase >= 2
		if len(buffer) > 0 && cell != x.Serving && cell != x.Source && !isTarget {
			return api.ErrOpen
		}
	}
	for number := x.Got; number < x.Fresh; number++ {
		if !held[number] {
			return api.ErrGap
		}
	}
	return api.OK
}

// spoilState changes a state a little.
func spoilState(r *rand.Rand, x *api.MoveState) {
	cell := r.Intn(len(x.Buffers))
	buffer := x.Buffers[cell]
	numbers := []*int{&x.At, &x.Phase, &x.Since, &x.Serving, &x.Target, &x.Source, &x.Path, &x.Fresh, &x.Got}
	at := r.Intn(len(buffer) + 1)
	switch r.Intn(16) {
	case 0:
		x.Buffers = append(x.Buffers, nil)
	case 1, 2, 3:
		number := max(0, x.Fresh-1-r.Intn(6))
		x.Buffers[cell] = append(append(append([]int{}, buffer[:at]...), number), buffer[at:]...)
	case 4, 5:
		x.Buffers[cell] = append(append([]int{}, buffer[:at]...), buffer[min(at+1, len(buffer)):]...)
	case 6:
		other := r.Intn(len(x.Buffers))
		x.Buffers[cell], x.Buffers[other] = x.Buffers[other], x.Buffers[cell]
	case 7:
		if at < len(buffer) {
			buffer[at] += r.Intn(9) - 4
		}
	case 8, 9, 10:
		*numbers[3+r.Intn(4)] = r.Intn(len(x.Buffers)+2) - 1
	case 11, 12:
		x.Phase = r.Intn(4)
	default:
		*numbers[r.Intn(len(numbers))] += r.Intn(5) - 2
	}
}

// TestStatesSlowly compares with slowStateError.
func TestStatesSlowly(t *testing.T) {
	r := rand.New(rand.NewSource(84))
	seen := map[api.Errno]int{}
	for range 500 {
		n := randomNetwork(r)
		right := randomState(r, n)
		for range 60 {
			x := stateOf(move.FormatState(right))
			for range r.Intn(4) {
				spoilState(r, &x)
			}
			want := slowStateError(n, x)
			e := move.CheckState(n, x)
			expect(t, fmt.Sprint("CheckState ", n, " ", move.FormatState(x)), e, e, want, want)
			seen[want]++
		}
	}
	for _, e := range []api.Errno{api.OK, api.ErrShape, api.ErrKind, api.ErrRange, api.ErrMissing, api.ErrForm, api.ErrClash, api.ErrState, api.ErrLarge, api.ErrOrder, api.ErrDouble, api.ErrOpen, api.ErrGap} {
		if seen[e] < 50 {
			t.Errorf("error %d: %d times", e, seen[e])
		}
	}
}

func TestWaitingAndDue(t *testing.T) {
	for _, x := range []struct {
		text    string
		waiting []int
		due     int
		e       api.Errno
	}{
		{"0 0 0 0 -1 -1 0 0 0|||", nil, 0, api.ErrNone},
		{"20 0 5 1 -1 0 1 4 2|2|3|", []int{2, 3}, 0, api.ErrNone},
		{"20 1 5 1 0 -1 1 4 2||0 1 2 3|", []int{2, 3}, 0, api.ErrNone},
		{"20 2 5 1 0 -1 1 6 2|2 4|0 1 3 5|", []int{2, 3, 4, 5}, 105, api.OK},
		{"20 3 20 1 -1 0 0 4 4|1 3|0|", nil, 120, api.OK},
		{"104 3 5 1 -1 -1 1 1 0||0|", []int{0}, 105, api.OK},
		{"1000000000 3 1000000000 1 -1 -1 1 1000000 999999||999999|", []int{999999}, 1000000100, api.OK}, // beyond all ticks
	} {
		waiting, e := move.Waiting(exampleNetwork(), stateOf(x.text))
		expect(t, "Waiting "+x.text, waiting, e, x.waiting, api.OK)
		due, e := move.DueOf(exampleNetwork(), stateOf(x.text))
		expect(t, "DueOf "+x.text, due, e, x.due, x.e)
	}
}
