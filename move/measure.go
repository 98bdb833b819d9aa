package move

import (
	"cmp"
	"iter"
	"slices"

	"downtilt/api"
)

// CheckRule finds what is wrong with a rule.
func CheckRule(r api.MoveRule) api.Errno {
	return firstError(
		rangeError(r.Offset, -api.MaxMoveHyst, api.MaxMoveHyst),
		rangeError(r.Hyst, 0, api.MaxMoveHyst),
		rangeError(r.Trigger, 0, api.MaxMoveTrigger))
}

// FirstTrigger returns the first tick at which a neighbour triggers.
func FirstTrigger(r api.MoveRule, serving, neighbour []int) (int, api.Errno) {
	if e := firstError(CheckRule(r), levelsError(serving, neighbour)); e != api.OK {
		return 0, e
	}
	for tick := range triggers(r, serving, neighbour) {
		return tick, api.OK
	}
	return 0, api.ErrNone
}

// Triggers returns all ticks at which a neighbour triggers.
func Triggers(r api.MoveRule, serving, neighbour []int) ([]int, api.Errno) {
	if e := firstError(CheckRule(r), levelsError(serving, neighbour)); e != api.OK {
		return nil, e
	}
	var ticks []int
	for tick := range triggers(r, serving, neighbour) {
		ticks = append(ticks, tick)
	}
	return ticks, api.OK
}

// Strongest returns the first tick at which a neighbour triggers, and the strongest one of those that do.
func Strongest(r api.MoveRule, levels [][]int, serving int) (api.MoveReport, api.Errno) {
	if e := firstError(CheckRule(r), cellsError(levels, serving)); e != api.OK {
		return api.MoveReport{}, e
	}
	var reports []api.MoveReport
	for cell, neighbour := range levels {
		at, e := FirstTrigger(r, levels[serving], neighbour)
		if cell != serving && e == api.OK {
			reports = append(reports, api.MoveReport{At: at, Cell: cell})
		}
	}
	if len(reports) == 0 {
		return api.MoveReport{}, api.ErrNone
	}
	return slices.MinFunc(reports, func(a, b api.MoveReport) int {
		return cmp.Or(
			cmp.Compare(a.At, b.At),
			cmp.Compare(levels[b.Cell][b.At], levels[a.Cell][a.At]))
	}), api.OK
}

// levelsError is that of the levels of the serving cell and of a neighbour.
func levelsError(serving, neighbour []int) api.Errno {
	e := firstError(
		unless(len(neighbour) == len(serving), api.ErrShape),
		unless(len(serving) <= api.MaxMoveTicks, api.ErrLarge))
	if e != api.OK {
		return e
	}
	for tick, level := range neighbour {
		e = firstError(e, levelError(serving[tick]), levelError(level))
	}
	return e
}

func levelError(level int) api.Errno {
	return rangeError(level, api.MinLevel, api.MaxLevel)
}

// cellsError is that of the levels of all cells, one of which serves.
func cellsError(levels [][]int, serving int) api.Errno {
	e := firstError(
		unless(len(levels) > 0, api.ErrShape),
		unless(len(levels) <= api.MaxMoveCells, api.ErrLarge),
		missingError(serving, len(levels)))
	if e != api.OK {
		return e
	}
	for cell, neighbour := range levels {
		if cell != serving {
			e = firstError(e, levelsError(levels[serving], neighbour))
		}
	}
	return e
}

// triggers ranges over the ticks at which a neighbour triggers, for levels that are right.
func triggers(r api.MoveRule, serving, neighbour []int) iter.Seq[int] {
	return func(yield func(int) bool) {
		better := 0      // for how many ticks it has been better
		mayAgain := true // it has not triggered before, or has been over since
		for tick, level := range neighbour {
			ahead := level - serving[tick] - r.Offset
			if ahead > r.Hyst {
				better++
			} else {
				better = 0
			}
			if ahead < -r.Hyst {
				mayAgain = true
			}
			if better > r.Trigger && mayAgain {
				mayAgain = false
				if !yield(tick) {
					return
				}
			}
		}
	}
}
