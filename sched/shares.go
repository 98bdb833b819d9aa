package sched

import (
	"slices"

	"downtilt/api"
)

// SharesOf returns the fair shares of a demand.
func SharesOf(q api.SchedDemand) (api.SchedShares, api.Errno) {
	if e := demandError(q); e != api.OK {
		return api.SchedShares{}, e
	}
	level := levelOf(q)
	x := api.SchedShares{Den: level.den, Parts: make([]int, len(q.Demands))}
	for i, demand := range q.Demands {
		x.Parts[i] = min(demand*level.den, level.num*q.Weights[i])
	}
	divisor := commonDivisor(append(slices.Clone(x.Parts), x.Den)...)
	x.Den /= divisor
	for i := range x.Parts {
		x.Parts[i] /= divisor
	}
	return x, api.OK
}

// CheckShares accepts fair shares. L is at least the greatest quotient of share and weight, and exactly that of each share that is less than its demand.
func CheckShares(q api.SchedDemand, x api.SchedShares) api.Errno {
	if e := sharedError(q, x); e != api.OK {
		return e
	}
	quotients := quotientsOf(q, x)
	level := slices.MaxFunc(quotients, fraction.compared)
	for i, quotient := range quotients {
		if x.Parts[i] < q.Demands[i]*x.Den && quotient.compared(level) < 0 {
			return api.ErrProof
		}
	}
	whole := min(q.Total, sumOf(q.Demands))
	return unless(sumOf(x.Parts) == whole*x.Den, api.ErrProof)
}

// Fairer tells which shares are fairer.
func Fairer(q api.SchedDemand, a, b api.SchedShares) (int, api.Errno) {
	if e := sharedError(q, a, b); e != api.OK {
		return 0, e
	}
	return slices.CompareFunc(fairnessOf(q, a), fairnessOf(q, b), fraction.compared), api.OK
}

func demandError(q api.SchedDemand) api.Errno {
	e := firstError(
		unless(isWithin(q.Total, 0, api.MaxSchedDemand), api.ErrRange),
		unless(len(q.Demands) > 0 && len(q.Weights) == len(q.Demands), api.ErrShape),
		unless(len(q.Demands) <= api.MaxSchedUsers, api.ErrLarge))
	if e != api.OK {
		return e
	}
	return firstError(
		itemsError(q.Demands, within(0, api.MaxSchedDemand)),
		itemsError(q.Weights, within(1, api.MaxSchedWeight)))
}

// sharedError is the first error of a demand and of its shares.
func sharedError(q api.SchedDemand, all ...api.SchedShares) api.Errno {
	if e := demandError(q); e != api.OK {
		return e
	}
	return itemsError(all, func(x api.SchedShares) api.Errno { return sharesError(q, x) })
}

// sharesError is of shares of a right demand.
func sharesError(q api.SchedDemand, x api.SchedShares) api.Errno {
	e := firstError(
		unless(isWithin(x.Den, 1, api.MaxPart), api.ErrRange),
		unless(len(x.Parts) == len(q.Demands), api.ErrShape))
	if e == api.OK {
		e = itemsError(x.Parts, within(0, api.MaxNumber))
	}
	if e != api.OK {
		return e
	}
	for i, part := range x.Parts {
		if part > q.Demands[i]*x.Den {
			return api.ErrBreak
		}
	}
	return unless(sumOf(x.Parts) <= q.Total*x.Den, api.ErrBreak)
}

// levelOf is the least L of the fair shares. From the least quotient of demand and weight on, whoever is below what is left for each weight gets all of it.
func levelOf(q api.SchedDemand) fraction {
	wants := make([]fraction, len(q.Demands))
	for i, demand := range q.Demands {
		wants[i] = fraction{demand, q.Weights[i]}
	}
	slices.SortFunc(wants, fraction.compared)
	left := fraction{q.Total, sumOf(q.Weights)}
	for _, want := range wants {
		if want.compared(left) > 0 {
			return left
		}
		left.num -= want.num
		left.den -= want.den
	}
	return wants[len(wants)-1]
}

// quotientsOf is of share and weight.
func quotientsOf(q api.SchedDemand, x api.SchedShares) []fraction {
	l := make([]fraction, len(x.Parts))
	for i, part := range x.Parts {
		l[i] = fraction{part, x.Den * q.Weights[i]}
	}
	return l
}

func fairnessOf(q api.SchedDemand, x api.SchedShares) []fraction {
	l := quotientsOf(q, x)
	slices.SortFunc(l, fraction.compared)
	return l
}
