package station

import (
	"slices"

	"downtilt/api"
)

// namedError is the first error of named things of any kind, and the number of the one that has it: a name is no name, or an earlier thing has it, or check finds something else.
func namedError[T any](l []T, nameOf func(T) string, check func(int, T) api.Errno) (int, api.Errno) {
	for i, x := range l {
		e := firstError(
			unless(isName(nameOf(x)), api.ErrName),
			unless(numberOf(l[:i], nameOf, nameOf(x)) == none, api.ErrExists),
			check(i, x))
		if e != api.OK {
			return i, e
		}
	}
	return 0, api.OK
}

// numberOf is the number of the thing that has a name.
func numberOf[T any](l []T, nameOf func(T) string, name string) int {
	return slices.IndexFunc(l, func(x T) bool { return nameOf(x) == name })
}

func namesOf[T any](l []T, nameOf func(T) string) []string {
	var names []string
	for _, x := range l {
		names = append(names, nameOf(x))
	}
	return names
}

func personName(x api.StationPerson) string { return x.Name }

func alarmName(x api.StationAlarm) string { return x.Name }

func cellName(x api.PlanCell) string { return x.Name }

func bearerName(x api.SchedBearer) string { return x.Name }

func counterName(x api.StationCounter) string { return x.Name }
