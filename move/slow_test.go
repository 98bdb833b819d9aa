package move_test

import (
	"maps"
	"slices"

	"downtilt/api"
)

// slowPhone is a phone that notes what it takes, where it is served and how long it is out. Its packets are kept by who has them.
type slowPhone struct {
	n       api.MoveNetwork
	x       api.MoveState
	holder  map[int]int
	took    []int
	stays   []api.MoveStay
	outages []int
}

func slowFrom(n api.MoveNetwork, x api.MoveState) slowPhone {
	s := slowPhone{n: n, x: x, holder: map[int]int{}, stays: []api.MoveStay{{Cell: x.Serving}}}
	for cell, buffer := range x.Buffers {
		for _, number := range buffer {
			s.holder[number] = cell
		}
	}
	if x.Phase >= api.MoveMoving {
		s.outages = []int{x.Since}
	}
	return s
}

func slowBegin(n api.MoveNetwork, cell int) slowPhone {
	return slowFrom(n, api.MoveState{Serving: cell, Target: -1, Source: -1, Path: cell, Buffers: make([][]int, len(n.Cells))})
}

// state is the state as the package has it.
func (s slowPhone) state() api.MoveState {
	x := s.x
	x.Buffers = make([][]int, len(s.n.Cells))
	for cell := range x.Buffers {
		x.Buffers[cell] = s.of(cell)
	}
	return x
}

// of is the packets of a cell.
func (s slowPhone) of(cell int) []int {
	var l []int
	for _, number := range slices.Sorted(maps.Keys(s.holder)) {
		if s.holder[number] == cell {
			l = append(l, number)
		}
	}
	return l
}

// note notes what has become of a stay and an outage.
func (s *slowPhone) note(before api.MoveState, at int) {
	if s.x.Serving != before.Serving {
		s.stays[len(s.stays)-1].To = at
		s.stays = append(s.stays, api.MoveStay{Cell: s.x.Serving, From: at})
	}
	wasIn, isIn := before.Phase < api.MoveMoving, s.x.Phase < api.MoveMoving
	if wasIn && !isIn {
		s.outages = append(s.outages, at) // when it began, as long as it goes on
	}
	if !wasIn && isIn {
		s.outages[len(s.outages)-1] = at - s.outages[len(s.outages)-1]
	}
}

// ended is the stays and the longest outage up to the time.
func (s slowPhone) ended() ([]api.MoveStay, int) {
	stays, outages := slices.Clone(s.stays), append(slices.Clone(s.outages), 0)
	stays[len(stays)-1].To = s.x.At
	if s.x.Phase >= api.MoveMoving {
		outages[len(outages)-2] = s.x.At - outages[len(outages)-2]
	}
	return stays, slices.Max(outages)
}

func (s *slowPhone) connect(cell, at int) {
	before := s.x
	for number := range s.holder {
		s.holder[number] = cell
	}
	maps.DeleteFunc(s.holder, func(number, _ int) bool { return number < s.x.Got })
	s.x.Phase, s.x.Since, s.x.Serving, s.x.Target, s.x.Source, s.x.Path = 0, at, cell, -1, -1, cell
	s.note(before, at)
}

// step is the phone behind an event that is right, or the error of it.
func (s slowPhone) step(e api.MoveEvent) (slowPhone, api.Errno) {
	s.holder, s.took, s.stays, s.outages = maps.Clone(s.holder), slices.Clone(s.took), slices.Clone(s.stays), slices.Clone(s.outages)
	if e.At < s.x.At {
		return s, api.ErrOrder
	}
	if (s.x.Phase == 2 || s.x.Phase == 3) && s.x.Since+s.n.Limit <= e.At {
		s.connect(0, s.x.Since+s.n.Limit)
	}
	s.x.At = e.At
	before := s.x
	f := s.do(e)
	if f == api.OK && (e.Kind == api.MoveForward || e.Kind == api.MoveSwitch) && s.x.Path == s.x.Serving && len(s.of(s.x.Source)) == 0 {
		s.x.Source = -1
	}
	if f == api.OK && e.Kind != api.MoveRecover {
		s.note(before, e.At)
	}
	return s, f
}

// do follows the chapter's table.
func (s *slowPhone) do(e api.MoveEvent) api.Errno {
	const connected, prepared, moving, lost = 0, 1, 2, 3
	x := &s.x
	served := s.of(x.Serving)
	switch e.Kind {
	case api.MoveData:
		if len(s.holder) == 60 || x.Fresh == 1000000 {
			return api.ErrFull
		}
		s.holder[x.Fresh] = x.Path
		x.Fresh++
	case api.MoveSend:
		if x.Phase == moving || x.Phase == lost {
			return api.ErrState
		}
		if len(served) == 0 {
			return api.ErrNone
		}
		if served[0] > x.Got {
			return api.ErrGap
		}
		if served[0] == x.Got {
			s.took = append(s.took, x.Got)
			x.Got++
		}
	case api.MoveAck:
		if x.Phase == moving || x.Phase == lost {
			return api.ErrState
		}
		for _, number := range served {
			if number < x.Got {
				delete(s.holder, number)
			}
		}
	case api.MovePrepare:
		if x.Phase != connected {
			return api.ErrState
		}
		if x.Source != -1 {
			return api.ErrBusy
		}
		if !slices.Contains(s.n.Neighbours, [2]int{x.Serving, e.Cell}) && !slices.Contains(s.n.Neighbours, [2]int{e.Cell, x.Serving}) {
			return api.ErrMissing
		}
		x.Target, x.Phase, x.Since = e.Cell, prepared, e.At
	case api.MoveCancel:
		if x.Phase != prepared {
			return api.ErrState
		}
		x.Target, x.Phase, x.Since = -1, connected, e.At
	case api.MoveCommand:
		if x.Phase != prepared {
			return api.ErrState
		}
		x.Phase, x.Since = moving, e.At
	case api.MoveComplete:
		if x.Phase != moving {
			return api.ErrState
		}
		x.Source = x.Serving
		x.Serving = x.Target
		x.Target, x.Phase, x.Since = -1, connected, e.At
	case api.MoveForward:
		return s.forward()
	case api.MoveSwitch:
		if x.Source == -1 {
			return api.ErrNone
		}
		if x.Phase == lost {
			return api.ErrState
		}
		if x.Path == x.Serving {
			return api.ErrDouble
		}
		x.Path = x.Serving
	case api.MoveFail:
		if x.Phase == lost {
			return api.ErrState
		}
		if x.Phase != moving {
			x.Since = e.At
		}
		x.Phase = lost
	case api.MoveRecover:
		if x.Phase != lost {
			return api.ErrState
		}
		if e.Cell != x.Serving && e.Cell != x.Target && e.Cell != x.Source {
			return api.ErrMissing
		}
		s.connect(e.Cell, e.At)
	}
	return api.OK
}

func (s *slowPhone) forward() api.Errno {
	from, to := s.x.Source, s.x.Serving
	if s.x.Phase == api.MoveMoving {
		from, to = s.x.Serving, s.x.Target
	} else if s.x.Phase != api.MoveConnected || s.x.Source == -1 {
		return api.ErrState
	}
	l := s.of(from)
	if len(l) == 0 {
		return api.ErrNone
	}
	s.holder[l[0]] = to
	return api.OK
}
