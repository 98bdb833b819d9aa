package move

import (
	"slices"

	"downtilt/api"
)

// phone is a phone by its state, in a network.
type phone struct {
	net api.MoveNetwork
	api.MoveState
}

// Begin returns the state at 0, in which a phone is connected to a cell.
func Begin(n api.MoveNetwork, cell int) (api.MoveState, api.Errno) {
	e := firstError(
		networkError(n),
		cellError(n, cell))
	if e != api.OK {
		return api.MoveState{}, e
	}
	p := phone{net: n}
	p.connect(cell, 0)
	return p.MoveState, api.OK
}

// CheckState finds what is wrong with a state.
func CheckState(n api.MoveNetwork, x api.MoveState) api.Errno {
	e := firstError(
		networkError(n),
		partsError(n, x))
	if e != api.OK {
		return e
	}
	p := phone{n, x}
	return firstError(
		unless(p.isFormed(), api.ErrForm),
		unless(p.isLinked(p.Target) && p.isLinked(p.Source), api.ErrClash),
		unless(!p.isDue(p.At) && !p.isSourceDone(), api.ErrState),
		p.packetsError())
}

// Waiting returns the numbers that a phone has not got.
func Waiting(n api.MoveNetwork, x api.MoveState) ([]int, api.Errno) {
	if e := CheckState(n, x); e != api.OK {
		return nil, e
	}
	return phone{n, x}.waiting(), api.OK
}

// DueOf returns when a phone is connected again, at the latest.
func DueOf(n api.MoveNetwork, x api.MoveState) (int, api.Errno) {
	if e := CheckState(n, x); e != api.OK {
		return 0, e
	}
	p := phone{n, x}
	if !p.isOut() {
		return 0, api.ErrNone
	}
	return p.due(), api.OK
}

// partsError is that of what the parts of a state may be by themselves.
func partsError(n api.MoveNetwork, x api.MoveState) api.Errno {
	e := firstError(
		unless(len(x.Buffers) == len(n.Cells), api.ErrShape),
		unless(isWithin(x.Phase, 0, api.MovePhases-1), api.ErrKind),
		tickError(x.At),
		rangeError(x.Since, 0, x.At),
		rangeError(x.Fresh, 0, api.MaxMoveNumber),
		rangeError(x.Got, 0, x.Fresh),
		cellError(n, x.Serving),
		cellError(n, x.Path))
	for _, cell := range []int{x.Target, x.Source} {
		if cell != api.MoveNone {
			e = firstError(e, cellError(n, cell))
		}
	}
	return e
}

// isFormed tells whether the target, the source and the path go with the phase, and with one another.
func (p phone) isFormed() bool {
	hasTarget, hasSource := p.Target != api.MoveNone, p.Source != api.MoveNone
	needsTarget := p.Phase == api.MovePrepared || p.Phase == api.MoveMoving
	switch {
	case hasTarget && p.Phase == api.MoveConnected:
		return false
	case needsTarget && !hasTarget:
		return false
	case hasTarget && hasSource: // a phone that needs a target has one here
		return false
	}
	return p.Path == p.Serving || p.Path == p.Source
}

// isLinked tells whether a cell, if it is one, is a neighbour of the serving one.
func (p phone) isLinked(cell int) bool {
	return cell == api.MoveNone || areNeighbours(p.net, p.Serving, cell)
}

// isOut tells whether no cell serves the phone.
func (p phone) isOut() bool {
	return p.Phase == api.MoveMoving || p.Phase == api.MoveLost
}

// due is when a phone that is out is connected again.
func (p phone) due() int {
	return p.Since + p.net.Limit
}

func (p phone) isDue(at int) bool {
	return p.isOut() && p.due() <= at
}

// isSourceDone tells whether there is a source from which nothing can come any more.
func (p phone) isSourceDone() bool {
	return p.Source != api.MoveNone && p.Path == p.Serving && len(p.Buffers[p.Source]) == 0
}

// packetsError is for a phone whose other parts are right.
func (p phone) packetsError() api.Errno {
	if p.packets() > api.MaxMovePackets {
		return api.ErrLarge
	}
	holders, e := p.holders()
	if e != api.OK {
		return e
	}
	for _, cell := range holders {
		if !p.mayHold(cell) {
			return api.ErrOpen
		}
	}
	for number := p.Got; number < p.Fresh; number++ {
		if _, isHeld := holders[number]; !isHeld {
			return api.ErrGap
		}
	}
	return api.OK
}

// packets is how many of them all cells have together.
func (p phone) packets() int {
	count := 0
	for _, buffer := range p.Buffers {
		count += len(buffer)
	}
	return count
}

// holders tells which cell has which packet, or the first error of these.
func (p phone) holders() (map[int]int, api.Errno) {
	holders := map[int]int{}
	for cell, buffer := range p.Buffers {
		for i, number := range buffer {
			_, isHeld := holders[number]
			e := firstError(
				rangeError(number, 0, p.Fresh-1),
				unless(i == 0 || number > buffer[i-1], api.ErrOrder),
				unless(!isHeld, api.ErrDouble))
			if e != api.OK {
				return nil, e
			}
			holders[number] = cell
		}
	}
	return holders, api.OK
}

// mayHold tells whether a cell may have packets: to the target they are forwarded only when the phone has been sent there.
func (p phone) mayHold(cell int) bool {
	return cell == p.Serving || cell == p.Source || cell == p.Target && p.isOut()
}

// waiting is the numbers that the phone has not got, each of which some cell has.
func (p phone) waiting() []int {
	var numbers []int
	for number := p.Got; number < p.Fresh; number++ {
		numbers = append(numbers, number)
	}
	return numbers
}

// connect connects the phone to a cell, into which all packets are merged: those that the phone has got are left out, so these are all that wait.
func (p *phone) connect(cell, at int) {
	p.Buffers = make([][]int, len(p.net.Cells))
	p.Buffers[cell] = p.waiting()
	p.Phase, p.Since = api.MoveConnected, at
	p.Serving, p.Path = cell, cell
	p.Target, p.Source = api.MoveNone, api.MoveNone
}

// copied is a phone whose packets may be changed.
func (p phone) copied() *phone {
	buffers := make([][]int, len(p.Buffers))
	for cell, buffer := range p.Buffers {
		buffers[cell] = slices.Clone(buffer)
	}
	p.Buffers = buffers
	return &p
}
