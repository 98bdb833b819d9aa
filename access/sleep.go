package access

import "downtilt/api"

// sleep is a sleep that was checked.
type sleep struct{ api.AccessSleep }

// CheckSleep finds what is wrong with a sleep.
func CheckSleep(s api.AccessSleep) api.Errno {
	return firstError(
		rangeError(s.Cycle, 1, api.MaxAccessSleep),
		rangeError(s.Start, 0, s.Cycle-1),
		rangeError(s.On, 1, s.Cycle),
		rangeError(s.Inactive, 0, api.MaxAccessSleep))
}

// AwakeAt tells whether a phone is awake at a tick.
func AwakeAt(s api.AccessSleep, tick, last int) (bool, api.Errno) {
	e := firstError(
		CheckSleep(s),
		tickError(tick),
		rangeError(last, api.AccessNone, api.MaxTick))
	if e != api.OK {
		return false, e
	}
	isActive := last != api.AccessNone && isWithin(tick, last, last+s.Inactive-1)
	return isActive || sleep{s}.isOn(tick), api.OK
}

// NextAwake returns the least tick, from a tick on, at which a phone is on.
func NextAwake(s api.AccessSleep, tick int) (int, api.Errno) {
	e := firstError(
		CheckSleep(s),
		tickError(tick))
	if e != api.OK {
		return 0, e
	}
	return sleep{s}.nextOn(tick), api.OK
}

// AwakeIn returns at how many ticks of a range a phone is on.
func AwakeIn(s api.AccessSleep, ticks api.Range) (int, api.Errno) {
	e := firstError(
		CheckSleep(s),
		ticksError(ticks))
	if e != api.OK {
		return 0, e
	}
	return sleep{s}.onIn(ticks), api.OK
}

// EnergyOf returns what a range takes.
func EnergyOf(s api.AccessSleep, ticks api.Range, x api.AccessPowers) (int, api.Errno) {
	e := firstError(
		CheckSleep(s),
		ticksError(ticks),
		rangeError(x.Awake, 0, api.MaxAccessPower),
		rangeError(x.Asleep, 0, api.MaxAccessPower),
		rangeError(x.Wake, 0, api.MaxAccessPower))
	if e != api.OK {
		return 0, e
	}
	k := sleep{s}
	on, all := k.onIn(ticks), ticks.Hi-ticks.Lo+1
	return on*x.Awake + (all-on)*x.Asleep + k.wakesIn(ticks)*x.Wake, api.OK
}

// place is how far a tick is behind the beginning of its cycle.
func (k sleep) place(tick int) int {
	return modulo(tick-k.Start, k.Cycle)
}

func (k sleep) isOn(tick int) bool {
	return k.place(tick) < k.On
}

func (k sleep) nextOn(tick int) int {
	if k.isOn(tick) {
		return tick
	}
	return tick + k.Cycle - k.place(tick)
}

func (k sleep) onIn(ticks api.Range) int {
	return k.onAhead(ticks.Hi+1) - k.onAhead(ticks.Lo)
}

// onAhead is at how many ticks a phone is on, from the last cycle that begins ahead of 0 to the tick.
func (k sleep) onAhead(tick int) int {
	ticks := tick - k.Start + k.Cycle
	return ticks/k.Cycle*k.On + min(ticks%k.Cycle, k.On)
}

// wakesIn is how often a phone wakes up.
func (k sleep) wakesIn(ticks api.Range) int {
	if k.On == k.Cycle {
		return 1 // it never sleeps: only the first tick counts
	}
	wakes := k.beginsAhead(ticks.Hi+1) - k.beginsAhead(ticks.Lo+1)
	if k.isOn(ticks.Lo) {
		wakes++
	}
	return wakes
}

// beginsAhead is how many cycles begin ahead of a tick, from the last one ahead of 0 on.
func (k sleep) beginsAhead(tick int) int {
	return roundedUp(tick-k.Start+k.Cycle, k.Cycle)
}
