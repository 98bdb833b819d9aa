package access

import (
	"slices"

	"downtilt/api"
)

// use is what an event may use, in the order of its fields.
type use int

const (
	usesPhone use = iota
	usesPreamble
	usesSent
	usesIdentity
	allUses // how many there are
)

// eventKind is a kind of events: its word, what it uses in the order of its text, and what it does when time has passed.
type eventKind struct {
	word string
	uses []use
	do   func(*site, api.AccessEvent) api.Errno
}

func eventKinds() [api.AccessKinds]eventKind {
	return [api.AccessKinds]eventKind{
		api.AccessSend:    {"send", []use{usesPhone, usesPreamble}, (*site).send},
		api.AccessAnswer:  {"answer", []use{usesPreamble, usesSent}, (*site).answer},
		api.AccessResolve: {"resolve", []use{usesIdentity, usesPhone}, (*site).resolve},
		api.AccessRelease: {"release", []use{usesPhone}, (*site).release},
		api.AccessPass:    {"pass", nil, (*site).doNothing},
	}
}

// usedBy is where an event has what it may use.
func usedBy(e *api.AccessEvent) [allUses]*int {
	return [allUses]*int{
		usesPhone:    &e.Phone,
		usesPreamble: &e.Preamble,
		usesSent:     &e.Sent,
		usesIdentity: &e.Identity,
	}
}

// CheckEvent finds what is wrong with an event.
func CheckEvent(r api.AccessRules, phones int, e api.AccessEvent) api.Errno {
	return firstError(
		CheckRules(r),
		rangeError(phones, 1, api.MaxAccessPhones),
		eventError(r, phones, e))
}

// Apply returns the state behind an event.
func Apply(r api.AccessRules, s api.AccessState, e api.AccessEvent) (api.AccessState, api.Errno) {
	wrong := firstError(
		CheckState(r, s),
		eventError(r, len(s.Phones), e),
		unless(e.At >= s.At, api.ErrOrder))
	if wrong != api.OK {
		return api.AccessState{}, wrong
	}
	return site{r, s}.behind(e)
}

// Replay returns the state behind events, or the number of the first one that is refused.
func Replay(r api.AccessRules, draws []int, l []api.AccessEvent) (api.AccessState, int, api.Errno) {
	s, wrong := Begin(r, draws)
	wrong = firstError(wrong, unless(len(l) <= api.MaxAccessEvents, api.ErrLarge))
	if wrong != api.OK {
		return api.AccessState{}, 0, wrong
	}
	for i, e := range l {
		s, wrong = Apply(r, s, e)
		if wrong != api.OK {
			return api.AccessState{}, i, wrong
		}
	}
	return s, 0, api.OK
}

// eventError is for rules that are right.
func eventError(r api.AccessRules, phones int, e api.AccessEvent) api.Errno {
	if !isWithin(e.Kind, 0, api.AccessKinds-1) {
		return api.ErrKind
	}
	uses := eventKinds()[e.Kind].uses
	wrong := tickError(e.At)
	for u, number := range usedBy(&e) {
		isRight := *number == 0 || slices.Contains(uses, use(u))
		wrong = firstError(wrong, unless(isRight, api.ErrForm))
	}
	errors := [allUses]api.Errno{
		usesPhone:    missingError(e.Phone, phones),
		usesPreamble: missingError(e.Preamble, r.Preambles),
		usesSent:     rangeError(e.Sent, 0, e.At),
		usesIdentity: missingError(e.Identity, r.Identities),
	}
	for _, u := range uses { // none lists Sent ahead of anything else
		wrong = firstError(wrong, errors[u])
	}
	return wrong
}

// behind is the state behind an event that is right, if it is possible.
func (k site) behind(e api.AccessEvent) (api.AccessState, api.Errno) {
	c := k.copied()
	c.pass(e.At)
	if wrong := eventKinds()[e.Kind].do(c, e); wrong != api.OK {
		return api.AccessState{}, wrong
	}
	return c.AccessState, api.OK
}

// pass lets time pass.
func (k *site) pass(to int) {
	k.At = to
	for i, p := range k.Phones {
		hopes := p.Stage == api.AccessWaiting || p.Stage == api.AccessAsking
		if hopes && p.Until < to {
			k.lose(i, p.Until+1)
		}
	}
}

func (k *site) lose(i, at int) {
	p := k.Phones[i]
	if p.Tries == k.Tries {
		k.Phones[i] = inStage(p, api.AccessFailed)
		return
	}
	p.Draw = nextDraw(p.Draw)
	p.Until = at + p.Draw%(k.Backoff+1)
	k.Phones[i] = inStage(p, api.AccessBack)
}

func (k *site) send(e api.AccessEvent) api.Errno {
	p := k.Phones[e.Phone]
	wrong := firstError(
		unless(p.Stage == api.AccessIdle || p.Stage == api.AccessBack, api.ErrState),
		unless(p.Until <= e.At, api.ErrBusy), // Until of an idle phone is 0
		unless(k.isChance(e.At), api.ErrClash))
	if wrong != api.OK {
		return wrong
	}
	p.Preamble, p.Sent, p.Until = e.Preamble, e.At, e.At+k.Window
	p.Tries++
	k.Phones[e.Phone] = inStage(p, api.AccessWaiting)
	return api.OK
}

func (k *site) answer(e api.AccessEvent) api.Errno {
	waiting := numbersOf(k.Phones, func(p api.AccessPhone) bool {
		return p.Stage == api.AccessWaiting && p.Preamble == e.Preamble && p.Sent == e.Sent
	})
	identity, full := k.leastFree()
	wrong := firstError(unless(len(waiting) > 0, api.ErrNone), full)
	if wrong != api.OK {
		return wrong
	}
	for _, i := range waiting {
		p := k.Phones[i]
		p.Identity, p.Until = identity, e.At+k.Wait
		k.Phones[i] = inStage(p, api.AccessAsking)
	}
	return api.OK
}

func (k *site) resolve(e api.AccessEvent) api.Errno {
	asking := withIdentity(k.Phones, api.AccessAsking, e.Identity)
	wrong := firstError(
		unless(len(asking) > 0, api.ErrNone),
		unless(slices.Contains(asking, e.Phone), api.ErrClash))
	if wrong != api.OK {
		return wrong
	}
	for _, i := range asking {
		if i != e.Phone {
			k.lose(i, e.At)
		}
	}
	k.Phones[e.Phone] = inStage(k.Phones[e.Phone], api.AccessDone)
	return api.OK
}

func (k *site) release(e api.AccessEvent) api.Errno {
	p := k.Phones[e.Phone]
	if p.Stage != api.AccessDone && p.Stage != api.AccessFailed {
		return api.ErrState
	}
	k.Phones[e.Phone] = inStage(p, api.AccessIdle)
	return api.OK
}

// doNothing is for an event that lets time pass, which has passed by then.
func (k *site) doNothing(api.AccessEvent) api.Errno {
	return api.OK
}
