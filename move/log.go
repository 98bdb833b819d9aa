package move

import "downtilt/api"

// Replay returns the state behind events, or the number of the first one that is refused.
func Replay(n api.MoveNetwork, cell int, l []api.MoveEvent) (api.MoveState, int, api.Errno) {
	states, number, e := statesOf(n, cell, l)
	if e != api.OK {
		return api.MoveState{}, number, e
	}
	return states[len(states)-1], number, api.OK
}

// Received returns the numbers that a phone took in a log.
func Received(n api.MoveNetwork, cell int, l []api.MoveEvent) ([]int, api.Errno) {
	x, _, e := Replay(n, cell, l)
	if e != api.OK {
		return nil, e
	}
	var numbers []int
	for number := range x.Got { // it takes only the number that it expects, and expects the next one then
		numbers = append(numbers, number)
	}
	return numbers, api.OK
}

// Stays returns all stays of a log.
func Stays(n api.MoveNetwork, cell int, l []api.MoveEvent) ([]api.MoveStay, api.Errno) {
	states, _, e := statesOf(n, cell, l)
	if e != api.OK {
		return nil, e
	}
	stays := []api.MoveStay{{Cell: cell}}
	for _, x := range states {
		last := &stays[len(stays)-1]
		last.To = x.At
		if x.Serving != last.Cell {
			last.To = x.Since // it is connected since it is served by another cell
			stays = append(stays, api.MoveStay{Cell: x.Serving, From: x.Since, To: x.At})
		}
	}
	return stays, api.OK
}

// PingPongs returns how many ping-pongs stays have.
func PingPongs(n api.MoveNetwork, l []api.MoveStay, within int) (int, api.Errno) {
	e := firstError(
		networkError(n),
		unless(len(l) <= api.MaxMoveEvents, api.ErrLarge),
		staysError(n, l),
		tickError(within))
	if e != api.OK {
		return 0, e
	}
	count := 0
	for i := 1; i < len(l)-1; i++ {
		if l[i-1].Cell == l[i+1].Cell && l[i].To-l[i].From <= within {
			count++
		}
	}
	return count, api.OK
}

// LongestOutage returns the longest outage of a log.
func LongestOutage(n api.MoveNetwork, cell int, l []api.MoveEvent) (int, api.Errno) {
	states, _, e := statesOf(n, cell, l)
	if e != api.OK {
		return 0, e
	}
	longest := 0
	before := phone{n, states[0]}
	for _, x := range states {
		behind := phone{n, x}
		if before.isOut() {
			longest = max(longest, behind.outUntil()-before.Since)
		}
		before = behind
	}
	return longest, api.OK
}

// statesOf is the state at the beginning, and for each event the state when time has passed to it, and the one behind it; or the number of the first event that is refused.
func statesOf(n api.MoveNetwork, cell int, l []api.MoveEvent) ([]api.MoveState, int, api.Errno) {
	x, wrong := Begin(n, cell)
	wrong = firstError(wrong, unless(len(l) <= api.MaxMoveEvents, api.ErrLarge))
	if wrong != api.OK {
		return nil, 0, wrong
	}
	states := []api.MoveState{x}
	for i, e := range l {
		behind, wrong := Apply(n, x, e)
		if wrong != api.OK {
			return nil, i, wrong
		}
		passed, _ := Apply(n, x, api.MoveEvent{Kind: api.MovePass, At: e.At}) // accepted, since the event is
		states = append(states, passed, behind)
		x = behind
	}
	return states, 0, api.OK
}

// outUntil is until when a phone was out that was so before.
func (p phone) outUntil() int {
	if p.isOut() {
		return p.At
	}
	return p.Since
}

// staysError is that of stays one by one.
func staysError(n api.MoveNetwork, l []api.MoveStay) api.Errno {
	for i, stay := range l {
		e := firstError(
			cellError(n, stay.Cell),
			tickError(stay.From),
			tickError(stay.To),
			unless(stay.To >= stay.From, api.ErrOrder))
		if i > 0 {
			e = firstError(
				e,
				unless(stay.From == l[i-1].To, api.ErrOrder),
				unless(stay.Cell != l[i-1].Cell, api.ErrDouble))
		}
		if e != api.OK {
			return e
		}
	}
	return api.OK
}
