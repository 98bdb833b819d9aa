package move

import (
	"slices"

	"downtilt/api"
)

// eventKind is a kind of events: its word, whether it names a cell, and what it does with this when time has passed.
type eventKind struct {
	word      string
	namesCell bool
	do        func(*phone, int) api.Errno
}

func eventKinds() [api.MoveKinds]eventKind {
	return [api.MoveKinds]eventKind{
		api.MoveData:     {"data", false, (*phone).data},
		api.MoveSend:     {"send", false, (*phone).send},
		api.MoveAck:      {"ack", false, (*phone).ack},
		api.MovePrepare:  {"prepare", true, (*phone).prepare},
		api.MoveCancel:   {"cancel", false, (*phone).cancel},
		api.MoveCommand:  {"command", false, (*phone).command},
		api.MoveComplete: {"complete", false, (*phone).complete},
		api.MoveForward:  {"forward", false, (*phone).forward},
		api.MoveSwitch:   {"switch", false, (*phone).switchPath},
		api.MoveFail:     {"fail", false, (*phone).fail},
		api.MoveRecover:  {"recover", true, (*phone).comeBack},
		api.MovePass:     {"pass", false, (*phone).doNothing},
	}
}

// CheckEvent finds what is wrong with an event.
func CheckEvent(n api.MoveNetwork, e api.MoveEvent) api.Errno {
	return firstError(
		networkError(n),
		eventError(n, e))
}

// Apply returns the state behind an event.
func Apply(n api.MoveNetwork, x api.MoveState, e api.MoveEvent) (api.MoveState, api.Errno) {
	wrong := firstError(
		CheckState(n, x),
		eventError(n, e),
		unless(e.At >= x.At, api.ErrOrder))
	if wrong != api.OK {
		return api.MoveState{}, wrong
	}
	p := phone{n, x}.copied()
	p.pass(e.At)
	if wrong := eventKinds()[e.Kind].do(p, e.Cell); wrong != api.OK {
		return api.MoveState{}, wrong
	}
	return p.MoveState, api.OK
}

// Possible returns all events at a time that are accepted.
func Possible(n api.MoveNetwork, x api.MoveState, at int) ([]api.MoveEvent, api.Errno) {
	wrong := firstError(
		CheckState(n, x),
		tickError(at),
		unless(at >= x.At, api.ErrOrder))
	if wrong != api.OK {
		return nil, wrong
	}
	var possible []api.MoveEvent
	for kind := range api.MoveKinds {
		for cell := range n.Cells { // of one that names no cell all but 0 are refused
			e := api.MoveEvent{Kind: kind, At: at, Cell: cell}
			if _, wrong := Apply(n, x, e); wrong == api.OK {
				possible = append(possible, e)
			}
		}
	}
	return possible, api.OK
}

// eventError is for networks that are right.
func eventError(n api.MoveNetwork, e api.MoveEvent) api.Errno {
	if !isWithin(e.Kind, 0, api.MoveKinds-1) {
		return api.ErrKind
	}
	cell := unless(e.Cell == 0, api.ErrForm)
	if eventKinds()[e.Kind].namesCell {
		cell = cellError(n, e.Cell)
	}
	return firstError(tickError(e.At), cell)
}

// pass lets time pass.
func (p *phone) pass(to int) {
	if p.isDue(to) {
		p.connect(0, p.due())
	}
	p.At = to
}

// enter begins a phase.
func (p *phone) enter(phase int) {
	p.Phase, p.Since = phase, p.At
}

func (p *phone) data(int) api.Errno {
	if p.packets() == api.MaxMovePackets || p.Fresh == api.MaxMoveNumber {
		return api.ErrFull
	}
	p.Buffers[p.Path] = append(p.Buffers[p.Path], p.Fresh)
	p.Fresh++
	return api.OK
}

func (p *phone) send(int) api.Errno {
	buffer := p.Buffers[p.Serving]
	switch {
	case p.isOut():
		return api.ErrState
	case len(buffer) == 0:
		return api.ErrNone
	case buffer[0] > p.Got:
		return api.ErrGap
	case buffer[0] == p.Got: // otherwise the phone has it already
		p.Got++
	}
	return api.OK
}

func (p *phone) ack(int) api.Errno {
	if p.isOut() {
		return api.ErrState
	}
	p.Buffers[p.Serving] = slices.DeleteFunc(p.Buffers[p.Serving], func(number int) bool { return number < p.Got })
	return api.OK
}

func (p *phone) prepare(cell int) api.Errno {
	wrong := firstError(
		unless(p.Phase == api.MoveConnected, api.ErrState),
		unless(p.Source == api.MoveNone, api.ErrBusy),
		unless(areNeighbours(p.net, p.Serving, cell), api.ErrMissing))
	if wrong != api.OK {
		return wrong
	}
	p.Target = cell
	p.enter(api.MovePrepared)
	return api.OK
}

func (p *phone) cancel(int) api.Errno {
	if p.Phase != api.MovePrepared {
		return api.ErrState
	}
	p.Target = api.MoveNone
	p.enter(api.MoveConnected)
	return api.OK
}

func (p *phone) command(int) api.Errno {
	if p.Phase != api.MovePrepared {
		return api.ErrState
	}
	p.enter(api.MoveMoving)
	return api.OK
}

func (p *phone) complete(int) api.Errno {
	if p.Phase != api.MoveMoving {
		return api.ErrState
	}
	p.Source, p.Serving, p.Target = p.Serving, p.Target, api.MoveNone
	p.enter(api.MoveConnected)
	return api.OK
}

func (p *phone) forward(int) api.Errno {
	from, to := p.Source, p.Serving
	switch {
	case p.Phase == api.MoveMoving:
		from, to = p.Serving, p.Target
	case p.Phase != api.MoveConnected || p.Source == api.MoveNone:
		return api.ErrState
	}
	if len(p.Buffers[from]) == 0 {
		return api.ErrNone
	}
	first := p.Buffers[from][0]
	at, _ := slices.BinarySearch(p.Buffers[to], first)
	p.Buffers[to] = slices.Insert(p.Buffers[to], at, first)
	p.Buffers[from] = p.Buffers[from][1:]
	p.leaveSource()
	return api.OK
}

func (p *phone) switchPath(int) api.Errno {
	wrong := firstError(
		unless(p.Source != api.MoveNone, api.ErrNone),
		unless(p.Phase != api.MoveLost, api.ErrState),
		unless(p.Path != p.Serving, api.ErrDouble))
	if wrong != api.OK {
		return wrong
	}
	p.Path = p.Serving
	p.leaveSource()
	return api.OK
}

// leaveSource gives the source up if nothing can come from it any more.
func (p *phone) leaveSource() {
	if p.isSourceDone() {
		p.Source = api.MoveNone
	}
}

func (p *phone) fail(int) api.Errno {
	switch p.Phase {
	case api.MoveLost:
		return api.ErrState
	case api.MoveMoving: // it has been out since the command
		p.Phase = api.MoveLost
	default:
		p.enter(api.MoveLost)
	}
	return api.OK
}

func (p *phone) comeBack(cell int) api.Errno {
	wrong := firstError(
		unless(p.Phase == api.MoveLost, api.ErrState),
		unless(cell == p.Serving || cell == p.Target || cell == p.Source, api.ErrMissing))
	if wrong != api.OK {
		return wrong
	}
	p.connect(cell, p.At)
	return api.OK
}

// doNothing is for an event that lets time pass, which has passed by then.
func (p *phone) doNothing(int) api.Errno {
	return api.OK
}
