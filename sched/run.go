package sched

import "downtilt/api"

// run is a site that serves bearers slot by slot.
type run struct {
	site
	bearers      []api.SchedBearer
	sent, left   []int // bits
	rates, given []int // of the slot: the bits of a block, and the blocks
}

// Run returns what a run comes to.
func Run(s api.SchedSite, l []api.SchedBearer, slots []api.SchedSlot) (api.SchedTrace, api.Errno) {
	if e := runError(s, l, slots); e != api.OK {
		return api.SchedTrace{}, e
	}
	r := begin(s, l)
	blocks := make([][]int, len(slots))
	for t, x := range slots {
		r.serve(x)
		blocks[t] = r.given
	}
	return api.SchedTrace{Blocks: blocks, Sent: r.sent, Left: r.left}, api.OK
}

// FirstLate returns the first slot at whose end a bit is late, and the first bearer that has one.
func FirstLate(s api.SchedSite, l []api.SchedBearer, slots []api.SchedSlot) ([2]int, api.Errno) {
	if e := runError(s, l, slots); e != api.OK {
		return [2]int{}, e
	}
	r := begin(s, l)
	for t, x := range slots {
		r.serve(x)
		for i := range l {
			if r.isLate(i, slots[:t+1]) {
				return [2]int{t, i}, api.OK
			}
		}
	}
	return [2]int{}, api.ErrNone
}

func runError(s api.SchedSite, l []api.SchedBearer, slots []api.SchedSlot) api.Errno {
	e := firstError(
		bearersError(s, l),
		unless(len(slots) <= api.MaxSchedSlots, api.ErrLarge))
	if e != api.OK {
		return e
	}
	return itemsError(slots, func(x api.SchedSlot) api.Errno { return site{s}.slotError(len(l), x) })
}

func (k site) slotError(bearers int, x api.SchedSlot) api.Errno {
	if len(x.Reports) != bearers || len(x.Arrivals) != bearers {
		return api.ErrShape
	}
	return firstError(
		itemsError(x.Reports, within(0, len(k.Table)-1)),
		itemsError(x.Arrivals, arrivalError))
}

// begin is for sites and bearers that are right.
func begin(s api.SchedSite, l []api.SchedBearer) *run {
	return &run{site: site{s}, bearers: l, sent: make([]int, len(l)), left: make([]int, len(l))}
}

// serve goes through a slot.
func (r *run) serve(x api.SchedSlot) {
	r.rates, r.given = make([]int, len(r.bearers)), make([]int, len(r.bearers))
	for i, report := range x.Reports {
		r.rates[i] = r.Table[report]
		r.left[i] += x.Arrivals[i]
	}
	r.giveNeeds()
	r.giveRest()
}

// giveNeeds gives the guaranteed bearers what they need.
func (r *run) giveNeeds() {
	for i, x := range r.bearers {
		for range r.needOf(x).Blocks {
			if r.canUse(i) {
				r.give(i)
			}
		}
	}
}

// giveRest gives the blocks that are left to candidates.
func (r *run) giveRest() {
	for range r.Blocks - sumOf(r.given) {
		i := r.next()
		if i == none {
			return
		}
		r.give(i)
	}
}

// next is the number of the candidate that gets the next block.
func (r *run) next() int {
	found := none
	for i := range r.bearers {
		if r.isCandidate(i) && (found == none || r.servedOf(i).compared(r.servedOf(found)) < 0) {
			found = i
		}
	}
	return found
}

func (r *run) isCandidate(i int) bool {
	served, power := 0, r.bearers[i].Power
	for j, blocks := range r.given {
		power += blocks * r.bearers[j].Power
		served += min(blocks, 1)
	}
	return r.canUse(i) && power <= r.Power && (r.given[i] > 0 || served < r.Control)
}

// canUse tells whether a block would take bits.
func (r *run) canUse(i int) bool {
	return r.left[i] > 0 && r.rates[i] > 0
}

// servedOf is the bits sent so far, divided by the weight.
func (r *run) servedOf(i int) fraction {
	return fraction{r.sent[i], r.bearers[i].Weight}
}

// give gives one more block.
func (r *run) give(i int) {
	bits := min(r.left[i], r.rates[i])
	r.given[i]++
	r.sent[i] += bits
	r.left[i] -= bits
}

// isLate tells whether a bit is late at the end of the last one of the slots so far. Since the oldest bits are sent first, it is enough to count: what has arrived up to Delay - 1 slots ago must have been sent.
func (r *run) isLate(i int, slots []api.SchedSlot) bool {
	x := r.bearers[i]
	if !isGuaranteed(x) {
		return false
	}
	due := 0
	for t := range len(slots) + 1 - x.Delay {
		due += slots[t].Arrivals[i]
	}
	return r.sent[i] < due
}
