package access

import (
	"slices"

	"downtilt/api"
)

// site is a site by its rules, and its phones at a time.
type site struct {
	api.AccessRules
	api.AccessState
}

// Begin returns the state at 0, in which no phone wants anything.
func Begin(r api.AccessRules, draws []int) (api.AccessState, api.Errno) {
	e := firstError(
		CheckRules(r),
		drawsError(draws))
	if e != api.OK {
		return api.AccessState{}, e
	}
	var s api.AccessState
	for _, draw := range draws {
		s.Phones = append(s.Phones, inStage(api.AccessPhone{Draw: draw}, api.AccessIdle))
	}
	return s, api.OK
}

// CheckState finds what is wrong with a state.
func CheckState(r api.AccessRules, s api.AccessState) api.Errno {
	e := firstError(
		CheckRules(r),
		tickError(s.At),
		unless(len(s.Phones) > 0, api.ErrShape),
		unless(len(s.Phones) <= api.MaxAccessPhones, api.ErrLarge))
	if e != api.OK {
		return e
	}
	for i := range s.Phones {
		if e := (site{r, s}).phoneError(i); e != api.OK {
			return e
		}
	}
	return api.OK
}

// Holder returns the phone that is done with an identity.
func Holder(r api.AccessRules, s api.AccessState, identity int) (int, api.Errno) {
	e := firstError(
		CheckState(r, s),
		missingError(identity, r.Identities))
	if e != api.OK {
		return 0, e
	}
	done := withIdentity(s.Phones, api.AccessDone, identity)
	if len(done) == 0 {
		return 0, api.ErrNone
	}
	return done[0], api.OK
}

// Asking returns the phones that ask with an identity.
func Asking(r api.AccessRules, s api.AccessState, identity int) ([]int, api.Errno) {
	e := firstError(
		CheckState(r, s),
		missingError(identity, r.Identities))
	if e != api.OK {
		return nil, e
	}
	return withIdentity(s.Phones, api.AccessAsking, identity), api.OK
}

// inStage is a phone in a stage, without what does not belong to that.
func inStage(p api.AccessPhone, stage int) api.AccessPhone {
	q := api.AccessPhone{Stage: stage, Preamble: api.AccessNone, Identity: api.AccessNone, Draw: p.Draw}
	switch stage {
	case api.AccessWaiting:
		q.Preamble, q.Sent, q.Until, q.Tries = p.Preamble, p.Sent, p.Until, p.Tries
	case api.AccessAsking:
		q.Identity, q.Until, q.Tries = p.Identity, p.Until, p.Tries
	case api.AccessBack:
		q.Until, q.Tries = p.Until, p.Tries
	case api.AccessDone:
		q.Identity = p.Identity
	case api.AccessFailed:
		q.Tries = p.Tries
	}
	return q
}

func (k site) phoneError(i int) api.Errno {
	p := k.Phones[i]
	return firstError(
		unless(isWithin(p.Stage, 0, api.AccessStages-1), api.ErrKind),
		drawError(p.Draw),
		unless(p == inStage(p, p.Stage), api.ErrForm),
		k.stageError(p, k.Phones[:i]))
}

// stageError is that of what belongs to the stage of a phone, behind earlier phones.
func (k site) stageError(p api.AccessPhone, earlier []api.AccessPhone) api.Errno {
	switch p.Stage {
	case api.AccessWaiting:
		return firstError(
			missingError(p.Preamble, k.Preambles),
			unless(isWithin(p.Sent, 0, k.At) && k.isChance(p.Sent), api.ErrState),
			unless(p.Until == p.Sent+k.Window && p.Until >= k.At, api.ErrState),
			rangeError(p.Tries, 1, k.Tries))
	case api.AccessAsking:
		return firstError(
			missingError(p.Identity, k.Identities),
			unless(isWithin(p.Until, k.At, k.At+k.Wait), api.ErrState),
			rangeError(p.Tries, 1, k.Tries),
			unless(!isDone(earlier, p.Identity), api.ErrClash))
	case api.AccessBack:
		return firstError(
			unless(isWithin(p.Until, 0, k.At+k.Backoff), api.ErrState),
			rangeError(p.Tries, 1, k.Tries-1))
	case api.AccessDone:
		return firstError(
			missingError(p.Identity, k.Identities),
			unless(isFree(earlier, p.Identity), api.ErrClash))
	case api.AccessFailed:
		return rangeError(p.Tries, k.Tries, k.Tries)
	}
	return api.OK
}

func (k site) isChance(tick int) bool {
	return tick%k.Every == 0
}

// leastFree is the least identity that no phone has.
func (k site) leastFree() (int, api.Errno) {
	for identity := range k.Identities {
		if isFree(k.Phones, identity) {
			return identity, api.OK
		}
	}
	return 0, api.ErrFull
}

func isFree(l []api.AccessPhone, identity int) bool {
	return !isDone(l, identity) && len(withIdentity(l, api.AccessAsking, identity)) == 0
}

func isDone(l []api.AccessPhone, identity int) bool {
	return len(withIdentity(l, api.AccessDone, identity)) > 0
}

func withIdentity(l []api.AccessPhone, stage, identity int) []int {
	return numbersOf(l, func(p api.AccessPhone) bool {
		return p.Stage == stage && p.Identity == identity
	})
}

// numbersOf is the numbers of the phones that are looked for.
func numbersOf(l []api.AccessPhone, isOne func(api.AccessPhone) bool) []int {
	var numbers []int
	for i, p := range l {
		if isOne(p) {
			numbers = append(numbers, i)
		}
	}
	return numbers
}

// copied is a site whose phones may be changed.
func (k site) copied() *site {
	k.Phones = slices.Clone(k.Phones)
	return &k
}
