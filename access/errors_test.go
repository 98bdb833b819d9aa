package access_test

import (
	"fmt"
	"math"
	"slices"
	"testing"

	"downtilt/access"
	"downtilt/api"
)

// wrongInts is numbers that are beyond a range.
func wrongInts(lo, hi int, e api.Errno) []wrong[int] {
	return []wrong[int]{{lo - 1, e}, {hi + 1, e}, {math.MinInt, e}, {math.MaxInt, e}}
}

// beyond is mistakes of a number that is beyond a range.
func beyond(touches string, at func(*arguments) *int, lo, hi int) []mistake {
	return mistakes(touches, at, wrongInts(lo, hi, api.ErrRange))
}

func rulesErrors() []mistake {
	return slices.Concat(
		beyond("preambles", func(a *arguments) *int { return &a.Rules.Preambles }, 1, 8),
		beyond("every", func(a *arguments) *int { return &a.Rules.Every }, 1, 100),
		beyond("window", func(a *arguments) *int { return &a.Rules.Window }, 1, 100),
		beyond("wait", func(a *arguments) *int { return &a.Rules.Wait }, 1, 100),
		beyond("tries", func(a *arguments) *int { return &a.Rules.Tries }, 1, 10),
		beyond("backoff", func(a *arguments) *int { return &a.Rules.Backoff }, 0, 1000),
		beyond("identities", func(a *arguments) *int { return &a.Rules.Identities }, 1, 16))
}

func drawsErrors() []mistake {
	const prime = api.GeneratorPrime
	return mistakes("draws", func(a *arguments) *[]int { return &a.Draws }, []wrong[[]int]{
		{nil, api.ErrShape},
		{make([]int, 9), api.ErrLarge},
		{slices.Repeat([]int{-1}, 9), api.ErrLarge},
		{[]int{-1}, api.ErrRange},
		{[]int{0, prime}, api.ErrRange},
		{[]int{prime, 0, 0}, api.ErrRange},
		{[]int{0, math.MinInt, 0}, api.ErrRange},
		{[]int{0, 0, 0, 0, 0, 0, 0, math.MaxInt}, api.ErrRange},
	})
}

// ofPhone is mistakes of a number of a phone of the state.
func ofPhone(i int, name string, at func(*api.AccessPhone) *int, all []wrong[int]) []mistake {
	return mistakes(fmt.Sprint(name, " of the phone ", i), func(a *arguments) *int {
		a.State.Phones = slices.Clone(a.State.Phones)
		return at(&a.State.Phones[i])
	}, all)
}

func preambleOf(p *api.AccessPhone) *int { return &p.Preamble }
func sentOf(p *api.AccessPhone) *int     { return &p.Sent }
func identityOf(p *api.AccessPhone) *int { return &p.Identity }
func untilOf(p *api.AccessPhone) *int    { return &p.Until }
func triesOf(p *api.AccessPhone) *int    { return &p.Tries }

// anyErrors are those that a phone may have in each stage.
func anyErrors(i int) []mistake {
	return slices.Concat(
		ofPhone(i, "stage", func(p *api.AccessPhone) *int { return &p.Stage }, wrongInts(0, 5, api.ErrKind)),
		ofPhone(i, "draw", func(p *api.AccessPhone) *int { return &p.Draw }, wrongInts(0, api.GeneratorPrime-1, api.ErrRange)))
}

// noErrors are those of what does not belong to the stage of a phone.
func noErrors(i int, name string, at func(*api.AccessPhone) *int) []mistake {
	nothing := 0
	if name == "preamble" || name == "identity" {
		nothing = api.AccessNone
	}
	return ofPhone(i, name, at, append(wrongInts(nothing, nothing, api.ErrForm), wrong[int]{nothing + 10, api.ErrForm}))
}

// phonesErrors are those of the phones of manyState, one by one.
func phonesErrors() []mistake {
	const state, double = api.ErrState, api.ErrClash
	idle := slices.Concat(anyErrors(0), noErrors(0, "preamble", preambleOf), noErrors(0, "sent", sentOf), noErrors(0, "identity", identityOf), noErrors(0, "until", untilOf), noErrors(0, "tries", triesOf))
	waiting := slices.Concat(anyErrors(1), noErrors(1, "identity", identityOf),
		ofPhone(1, "preamble", preambleOf, wrongInts(0, 2, api.ErrMissing)),
		ofPhone(1, "sent", sentOf, append(wrongInts(0, 20, state), wrong[int]{14, state}, wrong[int]{16, state}, wrong[int]{25, state}, wrong[int]{-5, state})),
		ofPhone(1, "until", untilOf, append(wrongInts(25, 25, state), wrong[int]{15, state}, wrong[int]{20, state})),
		ofPhone(1, "tries", triesOf, wrongInts(1, 3, api.ErrRange)))
	asking := func(i int) []mistake {
		return slices.Concat(anyErrors(i), noErrors(i, "preamble", preambleOf), noErrors(i, "sent", sentOf),
			ofPhone(i, "identity", identityOf, wrongInts(0, 4, api.ErrMissing)),
			ofPhone(i, "until", untilOf, wrongInts(20, 24, state)),
			ofPhone(i, "tries", triesOf, wrongInts(1, 3, api.ErrRange)))
	}
	back := slices.Concat(anyErrors(3), noErrors(3, "preamble", preambleOf), noErrors(3, "sent", sentOf), noErrors(3, "identity", identityOf),
		ofPhone(3, "until", untilOf, wrongInts(0, 29, state)),
		ofPhone(3, "tries", triesOf, wrongInts(1, 2, api.ErrRange)))
	done := slices.Concat(anyErrors(4), noErrors(4, "preamble", preambleOf), noErrors(4, "sent", sentOf), noErrors(4, "until", untilOf), noErrors(4, "tries", triesOf),
		ofPhone(4, "identity", identityOf, append(wrongInts(0, 4, api.ErrMissing), wrong[int]{1, double})))
	failed := slices.Concat(anyErrors(5), noErrors(5, "preamble", preambleOf), noErrors(5, "sent", sentOf), noErrors(5, "identity", identityOf), noErrors(5, "until", untilOf),
		ofPhone(5, "tries", triesOf, append(wrongInts(3, 3, api.ErrRange), wrong[int]{0, api.ErrRange})))
	clash := ofPhone(6, "identity", identityOf, []wrong[int]{{0, double}})
	return slices.Concat(idle, waiting, asking(2), back, done, failed, asking(6), clash)
}

func stateErrors() []mistake {
	sizes := mistakes("phones", func(a *arguments) *[]api.AccessPhone { return &a.State.Phones }, []wrong[[]api.AccessPhone]{
		{nil, api.ErrShape},
		{make([]api.AccessPhone, 9), api.ErrLarge},
		{slices.Repeat([]api.AccessPhone{idle(1)}, 9), api.ErrLarge},
	})
	time := beyond("time of the state", func(a *arguments) *int { return &a.State.At }, 0, api.MaxTick)
	return slices.Concat(time, sizes, phonesErrors())
}

func eventErrors() []mistake {
	event := func(a *arguments) *api.AccessEvent { return &a.Event }
	var form, missing []wrong[api.AccessEvent]
	for _, e := range []api.AccessEvent{
		{Kind: api.AccessSend, Sent: 1}, {Kind: api.AccessSend, Identity: 1},
		{Kind: api.AccessAnswer, Phone: 1}, {Kind: api.AccessAnswer, Identity: 1},
		{Kind: api.AccessResolve, Preamble: 1}, {Kind: api.AccessResolve, Sent: 1},
		{Kind: api.AccessRelease, Preamble: 1}, {Kind: api.AccessRelease, Sent: 1}, {Kind: api.AccessRelease, Identity: 1},
		{Kind: api.AccessPass, Phone: 1}, {Kind: api.AccessPass, Preamble: 1}, {Kind: api.AccessPass, Sent: 1}, {Kind: api.AccessPass, Identity: 1},
		// whatever else is wrong comes behind it
		{Kind: api.AccessSend, Phone: 7, Identity: 1}, {Kind: api.AccessSend, Preamble: 3, Sent: 1}, {Kind: api.AccessSend, Phone: -1, Sent: -1},
		{Kind: api.AccessAnswer, Preamble: 3, Identity: -1}, {Kind: api.AccessAnswer, Sent: 26, Phone: -1},
		{Kind: api.AccessResolve, Identity: 5, Sent: math.MinInt}, {Kind: api.AccessResolve, Phone: 7, Preamble: 1}, {Kind: api.AccessRelease, Phone: 7, Identity: 1},
	} {
		e.At = 25
		form = append(form, wrong[api.AccessEvent]{e, api.ErrForm})
	}
	for _, n := range []int{-1, math.MinInt, math.MaxInt} {
		for _, e := range []api.AccessEvent{send(25, n, 0), send(25, 0, n), send(25, n, n), answer(25, n, 0), answer(25, n, 26), resolve(25, n, 0), resolve(25, 0, n), resolve(25, n, n), release(25, n)} {
			missing = append(missing, wrong[api.AccessEvent]{e, api.ErrMissing})
		}
	}
	for _, e := range []api.AccessEvent{send(25, 7, 0), send(25, 0, 3), answer(25, 3, 0), answer(25, 3, -1), resolve(25, 5, 0), resolve(25, 0, 7), release(25, 7)} {
		missing = append(missing, wrong[api.AccessEvent]{e, api.ErrMissing})
	}
	var late []wrong[api.AccessEvent]
	for _, w := range wrongInts(0, 25, api.ErrRange) {
		late = append(late, wrong[api.AccessEvent]{answer(25, 2, w.x), w.e})
	}
	l := mistakes("kind of the event", func(a *arguments) *int { return &a.Event.Kind }, wrongInts(0, 4, api.ErrKind))
	l = append(l, beyond("time of the event", func(a *arguments) *int { return &a.Event.At }, 0, api.MaxTick)...)
	return slices.Concat(l, mistakes("event", event, slices.Concat(form, missing, late)))
}

func TestErrorsOfRules(t *testing.T) {
	checkErrors(t, "CheckRules", rulesErrors())
	at := beyond("tick", func(a *arguments) *int { return &a.At }, 0, api.MaxTick)
	checkErrors(t, "NextChance", rulesErrors(), at)
	checkErrors(t, "Begin", rulesErrors(), drawsErrors())
}

func TestErrorsOfStates(t *testing.T) {
	checkErrors(t, "CheckState", rulesErrors(), stateErrors())
	identity := mistakes("identity", func(a *arguments) *int { return &a.Identity }, wrongInts(0, 4, api.ErrMissing))
	checkErrors(t, "Asking", rulesErrors(), stateErrors(), identity)
	nobody := mistakes("identity", func(a *arguments) *int { return &a.Identity }, []wrong[int]{{1, api.ErrNone}, {2, api.ErrNone}, {4, api.ErrNone}})
	checkErrors(t, "Holder", rulesErrors(), stateErrors(), identity, nobody)
	at := beyond("tick", func(a *arguments) *int { return &a.At }, 0, api.MaxTick)
	early := mistakes("tick", func(a *arguments) *int { return &a.At }, []wrong[int]{{19, api.ErrOrder}, {0, api.ErrOrder}})
	checkErrors(t, "Possible", rulesErrors(), stateErrors(), at, early)
}

// TestFirstWrongPhone is of states in which a phone is wrong beside others.
func TestFirstWrongPhone(t *testing.T) {
	noStage, noForm := idle(1), idle(1)
	noStage.Stage, noForm.Tries = 6, 1
	for _, x := range []struct {
		what   string
		phones []api.AccessPhone
		e      api.Errno
	}{
		{"stage first", []api.AccessPhone{noStage, noForm}, api.ErrKind},
		{"form first", []api.AccessPhone{noForm, noStage}, api.ErrForm},
		{"done with an identity twice", []api.AccessPhone{done(3, 1), done(3, 2)}, api.ErrClash},
		{"done behind one that asks", []api.AccessPhone{asking(3, 20, 1, 1), done(3, 2)}, api.ErrClash},
		{"asking behind one that is done", []api.AccessPhone{done(3, 2), idle(1), asking(3, 20, 1, 1)}, api.ErrClash},
		{"clash ahead of another phone's stage", []api.AccessPhone{done(3, 2), done(3, 1), noStage}, api.ErrClash},
		{"no clash of other identities", []api.AccessPhone{done(3, 2), done(2, 1), asking(1, 20, 1, 1), asking(0, 24, 1, 1), asking(0, 20, 3, 1)}, api.OK},
		{"wrong time ahead of a clash", []api.AccessPhone{done(3, 2), asking(3, 19, 1, 1)}, api.ErrState},
		{"wrong tries ahead of a clash", []api.AccessPhone{done(3, 2), asking(3, 20, 4, 1)}, api.ErrRange},
		{"one that waits until too early", []api.AccessPhone{waiting(0, 5, 15, 1, 1)}, api.ErrState},
		{"one that waits until too early by a tick", []api.AccessPhone{waiting(0, 5, 19, 1, 1)}, api.ErrState},
		{"one that has sent too early", []api.AccessPhone{waiting(0, 5, 20, 1, 1)}, api.ErrState},
		{"one that sends later", []api.AccessPhone{waiting(0, 25, 35, 1, 1)}, api.ErrState},
		{"one that sends at no chance", []api.AccessPhone{waiting(0, 16, 26, 1, 1)}, api.ErrState},
		{"one that sent ahead of 0", []api.AccessPhone{waiting(0, -5, 5, 1, 1)}, api.ErrState},
		{"one that waits beyond all numbers", []api.AccessPhone{waiting(0, math.MaxInt, math.MinInt+9, 1, 1)}, api.ErrState},
		{"one that waits for the last tick", []api.AccessPhone{waiting(0, 10, 20, 1, 1)}, api.OK},
	} {
		e := access.CheckState(manyRules(), stateOf(20, x.phones...))
		expect(t, x.what, e, e, x.e, x.e)
	}
}

// TestSentAheadOfTime is of phones that would be right, but have sent ahead of 0 or at a later tick.
func TestSentAheadOfTime(t *testing.T) {
	each, fifth := manyRules(), manyRules()
	each.Every = 1
	for _, x := range []struct {
		r        api.AccessRules
		at, sent int
		e        api.Errno
	}{
		{each, 0, -1, api.ErrState}, {each, 9, -1, api.ErrState}, {each, 0, 0, api.OK}, {each, 0, 1, api.ErrState}, {each, 9, 0, api.OK}, {each, 9, 10, api.ErrState},
		{fifth, 0, -5, api.ErrState}, {fifth, 5, -5, api.ErrState}, {fifth, 0, 0, api.OK}, {fifth, 4, 5, api.ErrState}, {fifth, 5, 5, api.OK},
	} {
		e := access.CheckState(x.r, stateOf(x.at, waiting(0, x.sent, x.sent+10, 1, 1)))
		expect(t, fmt.Sprint("CheckState ", x), e, e, x.e, x.e)
	}
}

// TestOneTry is of rules by which nobody sends again.
func TestOneTry(t *testing.T) {
	r := manyRules()
	r.Tries = 1
	for _, x := range []struct {
		p api.AccessPhone
		e api.Errno
	}{
		{back(20, 1, 1), api.ErrRange},
		{back(20, 0, 1), api.ErrRange},
		{failed(1, 1), api.OK},
		{failed(0, 1), api.ErrRange},
		{waiting(0, 20, 30, 1, 1), api.OK},
		{waiting(0, 20, 30, 2, 1), api.ErrRange},
	} {
		e := access.CheckState(r, stateOf(20, x.p))
		expect(t, fmt.Sprint("CheckState ", x.p), e, e, x.e, x.e)
	}
}

func TestErrorsOfEvents(t *testing.T) {
	phones := beyond("phones", func(a *arguments) *int { return &a.Phones }, 1, 8)
	checkErrors(t, "CheckEvent", rulesErrors(), phones, eventErrors())
	for phones := 1; phones <= 8; phones++ {
		for phone := range 9 {
			want := api.OK
			if phone >= phones {
				want = api.ErrMissing
			}
			for _, x := range []api.AccessEvent{send(25, phone, 0), resolve(25, 0, phone), release(25, phone)} {
				e := access.CheckEvent(manyRules(), phones, x)
				expect(t, fmt.Sprint("CheckEvent ", phones, x), e, e, want, want)
			}
		}
	}
}

// refusedEvents are right events that manyState refuses.
func refusedEvents() []wrong[api.AccessEvent] {
	return []wrong[api.AccessEvent]{
		{send(19, 0, 1), api.ErrOrder},
		{send(15, 0, 1), api.ErrOrder},
		{answer(19, 2, 15), api.ErrOrder},
		{resolve(0, 1, 2), api.ErrOrder},
		{release(19, 4), api.ErrOrder},
		{pass(19), api.ErrOrder},
		{send(25, 1, 0), api.ErrState},
		{send(20, 2, 0), api.ErrState},
		{send(20, 4, 0), api.ErrState},
		{send(40, 5, 0), api.ErrState},
		{send(21, 4, 0), api.ErrState},
		{send(20, 3, 0), api.ErrBusy},
		{send(23, 3, 0), api.ErrBusy},
		{send(24, 3, 0), api.ErrClash},
		{send(21, 0, 0), api.ErrClash},
		{send(29, 0, 0), api.ErrClash},
		{answer(20, 1, 15), api.ErrNone},
		{answer(20, 2, 20), api.ErrNone},
		{answer(20, 2, 10), api.ErrNone},
		{answer(20, 0, 0), api.ErrNone},
		{answer(26, 2, 15), api.ErrNone},
		{resolve(20, 0, 4), api.ErrNone},
		{resolve(20, 2, 2), api.ErrNone},
		{resolve(25, 1, 2), api.ErrNone},
		{resolve(20, 1, 0), api.ErrClash},
		{resolve(20, 1, 4), api.ErrClash},
		{resolve(23, 1, 2), api.ErrClash},
		{release(20, 0), api.ErrState},
		{release(20, 1), api.ErrState},
		{release(20, 2), api.ErrState},
		{release(20, 3), api.ErrState},
		{release(26, 1), api.ErrState},
	}
}

func TestErrorsOfApply(t *testing.T) {
	event := func(a *arguments) *api.AccessEvent { return &a.Event }
	checkErrors(t, "Apply", rulesErrors(), stateErrors(), eventErrors(), mistakes("event", event, refusedEvents()))
}

// TestNoIdentityFree is of identities that phones ask with, or are done with.
func TestNoIdentityFree(t *testing.T) {
	r := manyRules()
	r.Identities = 2
	s := stateOf(20, asking(1, 22, 1, 1), done(0, 2), waiting(2, 15, 25, 1, 3))
	_, e := access.Apply(r, s, answer(22, 2, 15))
	expect(t, "all in use", e, e, api.ErrFull, api.ErrFull)
	_, e = access.Apply(r, s, answer(22, 2, 20))
	expect(t, "nobody waits", e, e, api.ErrNone, api.ErrNone)
	got, e := access.Apply(r, s, answer(23, 2, 15))
	expect(t, "free again", got, e, stateOf(23, back(23+(48272%10), 1, 48272), done(0, 2), asking(1, 27, 1, 3)), api.OK)
}

func TestErrorsOfReplay(t *testing.T) {
	log := mistakes("log", func(a *arguments) *[]api.AccessEvent { return &a.Log }, []wrong[[]api.AccessEvent]{
		{make([]api.AccessEvent, 201), api.ErrLarge},
		{slices.Repeat([]api.AccessEvent{{Kind: -1}}, 201), api.ErrLarge},
		{[]api.AccessEvent{{Kind: 5}}, api.ErrKind},
		{[]api.AccessEvent{send(5, 8, 1)}, api.ErrMissing},
		{[]api.AccessEvent{send(5, 0, 1), answer(5, 1, 6)}, api.ErrRange},
		{[]api.AccessEvent{pass(5), pass(4)}, api.ErrOrder},
		{[]api.AccessEvent{pass(5), release(5, 0), pass(4)}, api.ErrState},
	})
	checkErrors(t, "Replay", rulesErrors(), drawsErrors(), log)
}

// TestNumberOfTheEvent looks at the number beside an error of events.
func TestNumberOfTheEvent(t *testing.T) {
	type list = []api.AccessEvent
	for _, x := range []struct {
		r     api.AccessRules
		draws []int
		l     list
		n     int
		e     api.Errno
	}{
		{api.AccessRules{}, []int{1}, list{pass(5), pass(4)}, 0, api.ErrRange},
		{manyRules(), nil, list{pass(5), pass(4)}, 0, api.ErrShape},
		{manyRules(), []int{1}, append(slices.Repeat(list{pass(5)}, 200), pass(4)), 0, api.ErrLarge},
		{manyRules(), []int{1}, list{pass(-1)}, 0, api.ErrRange},
		{manyRules(), []int{1}, list{pass(5), pass(4)}, 1, api.ErrOrder},
		{manyRules(), []int{1}, list{pass(5), pass(5), send(5, 0, 0), send(5, 1, 0), pass(4)}, 3, api.ErrMissing},
		{manyRules(), []int{1}, append(slices.Repeat(list{pass(5)}, 199), pass(4)), 199, api.ErrOrder},
		{manyRules(), []int{1}, slices.Repeat(list{pass(5)}, 200), 0, api.OK},
		{manyRules(), []int{1}, nil, 0, api.OK},
	} {
		s, n, e := access.Replay(x.r, x.draws, x.l)
		expect(t, fmt.Sprintf("Replay of %d events", len(x.l)), n, e, x.n, x.e)
		if e == api.OK {
			at := 0
			for _, y := range x.l {
				at = y.At
			}
			expect(t, "state behind them", s, e, stateOf(at, idle(1)), api.OK)
		}
	}
}

func pagingErrors() []mistake {
	return slices.Concat(
		beyond("cycle", func(a *arguments) *int { return &a.Paging.Cycle }, 1, 256),
		mistakes("cycle", func(a *arguments) *int { return &a.Paging.Cycle }, []wrong[int]{{3, api.ErrForm}, {24, api.ErrForm}, {31, api.ErrForm}, {33, api.ErrForm}, {255, api.ErrForm}, {192, api.ErrForm}}),
		beyond("frames", func(a *arguments) *int { return &a.Paging.Frames }, 1, 32),
		mistakes("frames", func(a *arguments) *int { return &a.Paging.Frames }, []wrong[int]{{3, api.ErrForm}, {24, api.ErrForm}, {31, api.ErrForm}, {17, api.ErrForm}}),
		mistakes("occasions", func(a *arguments) *int { return &a.Paging.Occasions }, append(wrongInts(1, 4, api.ErrKind), wrong[int]{3, api.ErrKind}, wrong[int]{8, api.ErrKind}, wrong[int]{-2, api.ErrKind})),
		beyond("offset", func(a *arguments) *int { return &a.Paging.Offset }, 0, 31))
}

func TestErrorsOfPaging(t *testing.T) {
	phone := beyond("phone", func(a *arguments) *int { return &a.Phone }, 0, 1000000)
	other := beyond("other", func(a *arguments) *int { return &a.Other }, 0, 1000000)
	occasion := append(
		beyond("frame", func(a *arguments) *int { return &a.Occasion.Frame }, 0, 1023),
		beyond("subframe", func(a *arguments) *int { return &a.Occasion.Subframe }, 0, 9)...)
	checkErrors(t, "CheckPaging", pagingErrors())
	checkErrors(t, "OccasionOf", pagingErrors(), phone)
	checkErrors(t, "SleepOf", pagingErrors(), phone)
	checkErrors(t, "IsOccasion", pagingErrors(), phone, occasion)
	checkErrors(t, "NextOccasion", pagingErrors(), phone, occasion)
	checkErrors(t, "Together", pagingErrors(), phone, other)
}

func sleepErrors() []mistake {
	return slices.Concat(
		beyond("cycle", func(a *arguments) *int { return &a.Sleep.Cycle }, 1, 20480),
		beyond("start", func(a *arguments) *int { return &a.Sleep.Start }, 0, 9),
		beyond("on", func(a *arguments) *int { return &a.Sleep.On }, 1, 10),
		beyond("inactive", func(a *arguments) *int { return &a.Sleep.Inactive }, 0, 20480))
}

func TestErrorsOfSleep(t *testing.T) {
	tick := beyond("tick", func(a *arguments) *int { return &a.Tick }, 0, api.MaxTick)
	last := beyond("last", func(a *arguments) *int { return &a.Last }, -1, api.MaxTick)
	ticks := mistakes("ticks", func(a *arguments) *api.Range { return &a.Ticks }, []wrong[api.Range]{
		{api.Range{Lo: -1, Hi: 5}, api.ErrRange},
		{api.Range{Lo: 5, Hi: -1}, api.ErrRange},
		{api.Range{Lo: 0, Hi: api.MaxTick + 1}, api.ErrRange},
		{api.Range{Lo: api.MaxTick + 1, Hi: 0}, api.ErrRange},
		{api.Range{Lo: math.MinInt, Hi: math.MaxInt}, api.ErrRange},
		{api.Range{Lo: math.MaxInt, Hi: math.MinInt}, api.ErrRange},
		{api.Range{Lo: 5, Hi: 4}, api.ErrOrder},
		{api.Range{Lo: api.MaxTick, Hi: 0}, api.ErrOrder},
	})
	powers := slices.Concat(
		beyond("awake", func(a *arguments) *int { return &a.Powers.Awake }, 0, 1000),
		beyond("asleep", func(a *arguments) *int { return &a.Powers.Asleep }, 0, 1000),
		beyond("wake", func(a *arguments) *int { return &a.Powers.Wake }, 0, 1000))
	checkErrors(t, "CheckSleep", sleepErrors())
	checkErrors(t, "AwakeAt", sleepErrors(), tick, last)
	checkErrors(t, "NextAwake", sleepErrors(), tick)
	checkErrors(t, "AwakeIn", sleepErrors(), ticks)
	checkErrors(t, "EnergyOf", sleepErrors(), ticks, powers)
}
