package access_test

import (
	"fmt"
	"math/rand"
	"slices"
	"testing"

	"downtilt/access"
	"downtilt/api"
)

// steps applies events, and compares each state and error; a refused event changes nothing.
func steps(t *testing.T, r api.AccessRules, s api.AccessState, all []step) {
	t.Helper()
	for _, x := range all {
		got, e := access.Apply(r, s, x.event)
		want := stateOf(x.event.At, x.phones...)
		if x.e != api.OK {
			want = api.AccessState{}
		}
		expect(t, access.FormatEvent(x.event), got, e, want, x.e)
		if e == api.OK {
			s = got
		}
	}
}

// step is an event, and the phones behind it, or its error.
type step struct {
	event  api.AccessEvent
	e      api.Errno
	phones []api.AccessPhone
}

func accepted(event api.AccessEvent, phones ...api.AccessPhone) step {
	return step{event: event, phones: phones}
}

func refused(event api.AccessEvent, e api.Errno) step {
	return step{event: event, e: e}
}

// TestApplyExample is the examples 1 and 2 of the chapter.
func TestApplyExample(t *testing.T) {
	r := exampleRules()
	steps(t, r, must(access.Begin(r, []int{1, 2})), []step{
		accepted(send(5, 0, 1), waiting(1, 5, 15, 1, 1), idle(2)),
		accepted(send(5, 1, 1), waiting(1, 5, 15, 1, 1), waiting(1, 5, 15, 1, 2)),
		accepted(answer(8, 1, 5), asking(0, 12, 1, 1), asking(0, 12, 1, 2)),
		refused(answer(8, 1, 5), api.ErrNone),
		accepted(resolve(9, 0, 1), back(11, 1, 48272), done(0, 2)),
		refused(send(10, 0, 0), api.ErrBusy),
		accepted(send(15, 0, 0), waiting(0, 15, 25, 2, 48272), done(0, 2)),
		accepted(pass(25), waiting(0, 15, 25, 2, 48272), done(0, 2)),
		accepted(pass(26), failed(2, 48272), done(0, 2)),
		refused(send(30, 0, 0), api.ErrState),
		accepted(release(30, 0), idle(48272), done(0, 2)),
		accepted(send(30, 0, 0), waiting(0, 30, 40, 1, 48272), done(0, 2)),
		accepted(release(31, 1), waiting(0, 30, 40, 1, 48272), idle(2)),
	})
}

// TestNoAnswerExample is the example 3 of the chapter.
func TestNoAnswerExample(t *testing.T) {
	r := exampleRules()
	both := stateOf(5, waiting(1, 5, 15, 1, 1), waiting(1, 5, 15, 1, 2))
	lost := []api.AccessPhone{back(18, 1, 48272), back(19, 1, 96543)}
	steps(t, r, both, []step{
		accepted(pass(15), both.Phones...),
		accepted(pass(16), lost...),
		refused(answer(16, 1, 5), api.ErrNone),
		accepted(pass(1000), lost...),
	})
	steps(t, r, both, []step{accepted(pass(1000), lost...)})
}

// TestReplayExample is the events of the example 5 of the chapter.
func TestReplayExample(t *testing.T) {
	l := []api.AccessEvent{send(5, 0, 1), send(5, 1, 1), answer(8, 1, 5), resolve(9, 0, 1), release(20, 1), pass(26)}
	s, n, e := access.Replay(exampleRules(), []int{1, 2}, l)
	expect(t, "Replay", s, e, stateOf(26, back(11, 1, 48272), idle(2)), api.OK)
	expect(t, "number of Replay", n, e, 0, api.OK)
	l = slices.Insert(l, 4, send(10, 0, 0))
	s, n, e = access.Replay(exampleRules(), []int{1, 2}, l)
	expect(t, "refused Replay", s, e, api.AccessState{}, api.ErrBusy)
	expect(t, "number of the refused event", n, e, 4, api.ErrBusy)
}

// TestMoreExactly is the list of what the chapter says more exactly, as far as it is of events.
func TestMoreExactly(t *testing.T) {
	r := exampleRules()
	steps(t, r, stateOf(5, waiting(1, 5, 15, 1, 1)), []step{ // at the very tick of its Until
		accepted(answer(15, 1, 5), asking(0, 19, 1, 1)),
		accepted(resolve(19, 0, 0), done(0, 1)),
	})
	steps(t, r, stateOf(10, waiting(1, 5, 15, 1, 1), waiting(1, 10, 20, 1, 2), waiting(0, 10, 20, 1, 3)), []step{ // each by itself
		accepted(answer(11, 1, 10), waiting(1, 5, 15, 1, 1), asking(0, 15, 1, 2), waiting(0, 10, 20, 1, 3)),
		accepted(answer(12, 0, 10), waiting(1, 5, 15, 1, 1), asking(0, 15, 1, 2), asking(1, 16, 1, 3)),
		refused(answer(12, 1, 5), api.ErrFull),
		refused(answer(15, 1, 5), api.ErrFull),
		refused(answer(16, 1, 5), api.ErrNone),
		accepted(pass(16), back(18, 1, 48272), back(16+96543%10, 1, 96543), asking(1, 16, 1, 3)),
	})
	r.Identities = 1
	steps(t, r, stateOf(10, asking(0, 12, 1, 2), waiting(1, 10, 20, 1, 3), asking(0, 13, 1, 4)), []step{ // free once all have lost
		refused(answer(12, 1, 10), api.ErrFull),
		refused(answer(13, 1, 10), api.ErrFull),
		accepted(answer(14, 1, 10), back(13+96543%10, 1, 96543), asking(0, 18, 1, 3), back(14+193085%10, 1, 193085)),
	})
	r.Backoff = 0
	steps(t, r, stateOf(10, waiting(1, 0, 10, 1, 7), waiting(0, 5, 15, 2, 7)), []step{ // at once
		refused(send(10, 0, 1), api.ErrState),
		accepted(pass(11), back(11, 1, 337898), waiting(0, 5, 15, 2, 7)),
		refused(send(16, 1, 1), api.ErrState), // it has failed
		refused(send(14, 0, 1), api.ErrClash),
		accepted(send(15, 0, 1), waiting(1, 15, 25, 2, 337898), waiting(0, 5, 15, 2, 7)),
		accepted(release(16, 1), waiting(1, 15, 25, 2, 337898), idle(7)),
	})
	r.Every = 11
	steps(t, r, stateOf(10, waiting(1, 0, 10, 1, 7)), []step{ // at the tick at which it loses
		accepted(send(11, 0, 0), waiting(0, 11, 21, 2, 337898)),
	})
}

// TestLosers is of phones that lose together.
func TestLosers(t *testing.T) {
	r := manyRules()
	s := stateOf(20, asking(1, 22, 3, 1), asking(1, 24, 2, 2), asking(2, 24, 1, 3), asking(1, 20, 1, 4), waiting(0, 20, 30, 1, 5))
	steps(t, r, s, []step{
		accepted(resolve(20, 1, 1), failed(3, 1), done(1, 2), asking(2, 24, 1, 3), back(20+193085%10, 1, 193085), waiting(0, 20, 30, 1, 5)),
		accepted(resolve(24, 2, 2), failed(3, 1), done(1, 2), done(2, 3), back(25, 1, 193085), waiting(0, 20, 30, 1, 5)),
	})
	steps(t, r, s, []step{
		accepted(resolve(21, 1, 0), done(1, 1), back(21+96543%10, 2, 96543), asking(2, 24, 1, 3), back(21+193085%10, 1, 193085), waiting(0, 20, 30, 1, 5)),
	})
	last := api.GeneratorPrime - 1
	next := api.GeneratorPrime + 1 - api.AccessFactor // 48271 times -1, and 1
	steps(t, r, stateOf(10, waiting(0, 0, 10, 1, last), waiting(0, 0, 10, 1, 0)), []step{
		accepted(pass(11), back(11+next%10, 1, next), back(12, 1, 1)),
	})
}

// TestLastTicks is of events at the end of all ticks.
func TestLastTicks(t *testing.T) {
	const end = api.MaxTick
	r := manyRules()
	r.Backoff = 1000
	steps(t, r, stateOf(0, idle(1), idle(2), idle(3)), []step{
		accepted(send(end-10, 0, 1), waiting(1, end-10, end, 1, 1), idle(2), idle(3)),
		accepted(send(end-5, 1, 1), waiting(1, end-10, end, 1, 1), waiting(1, end-5, end+5, 1, 2), idle(3)),
		accepted(answer(end-1, 1, end-5), waiting(1, end-10, end, 1, 1), asking(0, end+3, 1, 2), idle(3)),
		accepted(send(end, 2, 0), waiting(1, end-10, end, 1, 1), asking(0, end+3, 1, 2), waiting(0, end, end+10, 1, 3)),
		accepted(answer(end, 0, end), waiting(1, end-10, end, 1, 1), asking(0, end+3, 1, 2), asking(1, end+4, 1, 3)),
		accepted(pass(end), waiting(1, end-10, end, 1, 1), asking(0, end+3, 1, 2), asking(1, end+4, 1, 3)),
		refused(pass(end+1), api.ErrRange),
	})
}

// slowPass lets time pass tick by tick.
func slowPass(r api.AccessRules, s api.AccessState, to int) api.AccessState {
	l := slices.Clone(s.Phones)
	for tick := s.At; tick <= to; tick++ {
		for i, p := range l {
			if (p.Stage == api.AccessWaiting || p.Stage == api.AccessAsking) && p.Until < tick {
				l[i] = slowLoser(r, p, tick)
			}
		}
	}
	return stateOf(to, l...)
}

func slowLoser(r api.AccessRules, p api.AccessPhone, tick int) api.AccessPhone {
	if p.Tries == r.Tries {
		return failed(p.Tries, p.Draw)
	}
	draw := (48271*p.Draw + 1) % 998244353
	return back(tick+draw%(r.Backoff+1), p.Tries, draw)
}

// slowApply follows the chapter, for states and events that are right, in their order.
func slowApply(r api.AccessRules, s api.AccessState, e api.AccessEvent) (api.AccessState, api.Errno) {
	s = slowPass(r, s, e.At)
	none := api.AccessState{}
	p := &s.Phones[e.Phone]
	switch e.Kind {
	case api.AccessSend:
		if p.Stage != api.AccessIdle && p.Stage != api.AccessBack {
			return none, api.ErrState
		}
		if p.Stage == api.AccessBack && p.Until > e.At {
			return none, api.ErrBusy
		}
		if e.At%r.Every != 0 {
			return none, api.ErrClash
		}
		*p = waiting(e.Preamble, e.At, e.At+r.Window, p.Tries+1, p.Draw)
	case api.AccessAnswer:
		return slowAnswer(r, s, e)
	case api.AccessResolve:
		if !slices.ContainsFunc(s.Phones, func(p api.AccessPhone) bool { return isAsking(p, e.Identity) }) {
			return none, api.ErrNone
		}
		if !isAsking(*p, e.Identity) {
			return none, api.ErrClash
		}
		*p = done(e.Identity, p.Draw)
		for i, q := range s.Phones {
			if isAsking(q, e.Identity) {
				s.Phones[i] = slowLoser(r, q, e.At)
			}
		}
	case api.AccessRelease:
		if p.Stage != api.AccessDone && p.Stage != api.AccessFailed {
			return none, api.ErrState
		}
		*p = idle(p.Draw)
	}
	return s, api.OK
}

func isAsking(p api.AccessPhone, identity int) bool {
	return p.Stage == api.AccessAsking && p.Identity == identity
}

func slowAnswer(r api.AccessRules, s api.AccessState, e api.AccessEvent) (api.AccessState, api.Errno) {
	used := map[int]bool{}
	var answered []int
	for i, p := range s.Phones {
		used[p.Identity] = true
		if p.Stage == api.AccessWaiting && p.Preamble == e.Preamble && p.Sent == e.Sent {
			answered = append(answered, i)
		}
	}
	if len(answered) == 0 {
		return api.AccessState{}, api.ErrNone
	}
	identity := 0
	for used[identity] {
		identity++
	}
	if identity >= r.Identities {
		return api.AccessState{}, api.ErrFull
	}
	for _, i := range answered {
		s.Phones[i] = asking(identity, e.At+r.Wait, s.Phones[i].Tries, s.Phones[i].Draw)
	}
	return s, api.OK
}

// TestApply compares runs with slowApply. Each state behind an event is right.
func TestApply(t *testing.T) {
	r := rand.New(rand.NewSource(72))
	seen := map[string]int{}
	for range 1500 {
		k := randomRules(r)
		s := must(access.Begin(k, randomDraws(r)))
		for range 60 {
			e := randomEvent(r, k, s, laterTick(r, k, s.At))
			want, f := slowApply(k, s, e)
			got, g := access.Apply(k, s, e)
			expect(t, fmt.Sprint("Apply ", k, s, e), got, g, want, f)
			seen[fmt.Sprint(e.Kind, g)]++
			if g == api.OK {
				s = got
				h := access.CheckState(k, s)
				expect(t, fmt.Sprint("CheckState ", k, s), h, h, api.OK, api.OK)
			}
		}
	}
	for kind, errors := range [][]api.Errno{
		{api.OK, api.ErrState, api.ErrBusy, api.ErrClash},
		{api.OK, api.ErrNone, api.ErrFull},
		{api.OK, api.ErrNone},
		{api.OK, api.ErrState},
		{api.OK},
	} {
		for _, e := range errors {
			if n := seen[fmt.Sprint(kind, e)]; n < 100 {
				t.Errorf("kind %d, error %d: %d times (%v)", kind, e, n, seen)
			}
		}
	}
}

// TestReplay compares with events that are applied one by one.
func TestReplay(t *testing.T) {
	r := rand.New(rand.NewSource(73))
	for range 500 {
		k, draws := randomRules(r), randomDraws(r)
		l := randomLog(r, k, draws)
		s := must(access.Begin(k, draws))
		for _, e := range l {
			s = must(access.Apply(k, s, e))
		}
		got, n, e := access.Replay(k, draws, l)
		expect(t, "Replay", got, e, s, api.OK)
		expect(t, "number of Replay", n, e, 0, api.OK)
	}
}

// TestOneIdentity is P7.7.
func TestOneIdentity(t *testing.T) {
	r := rand.New(rand.NewSource(74))
	together := 0
	for range 1000 {
		k, draws := randomRules(r), randomDraws(r)
		s := must(access.Begin(k, draws))
		for _, e := range randomLog(r, k, draws) {
			rivals := must(access.Asking(k, must(access.Apply(k, s, pass(e.At))), e.Identity))
			s = must(access.Apply(k, s, e))
			for identity := range k.Identities {
				count := 0
				for _, p := range s.Phones {
					if p.Stage == api.AccessDone && p.Identity == identity {
						count++
					}
				}
				if count > 1 || count == 1 && len(must(access.Asking(k, s, identity))) > 0 {
					t.Fatalf("the identity %d in %v", identity, s)
				}
			}
			if e.Kind != api.AccessResolve {
				continue
			}
			if len(rivals) > 1 {
				together++
			}
			for _, i := range rivals {
				if p := s.Phones[i]; (p.Stage == api.AccessDone) != (i == e.Phone) || p.Stage == api.AccessAsking {
					t.Fatalf("the phone %d behind %v in %v", i, e, s)
				}
			}
		}
	}
	if together < 100 {
		t.Errorf("%d times several asked", together)
	}
}

// TestEachTryEnds is P7.8.
func TestEachTryEnds(t *testing.T) {
	r := rand.New(rand.NewSource(75))
	latest := 0
	for range 1000 {
		k, draws := randomRules(r), randomDraws(r)
		s := must(access.Begin(k, draws))
		sent, tries := make([]int, len(draws)), make([]int, len(draws))
		for _, e := range randomLog(r, k, draws) {
			s = must(access.Apply(k, s, e))
			switch e.Kind {
			case api.AccessSend:
				sent[e.Phone] = e.At
				tries[e.Phone]++
			case api.AccessRelease:
				tries[e.Phone] = 0
			}
			for i, p := range s.Phones {
				if tries[i] > k.Tries {
					t.Fatalf("the phone %d has tried %d times", i, tries[i])
				}
				if p.Stage != api.AccessWaiting && p.Stage != api.AccessAsking {
					continue
				}
				if end := sent[i] + k.Window + k.Wait; p.Until == end {
					latest++
				}
				later := must(access.Apply(k, s, pass(sent[i]+k.Window+k.Wait+1))).Phones[i]
				if later.Stage != api.AccessBack && later.Stage != api.AccessFailed || later.Tries != tries[i] {
					t.Fatalf("the phone %d is %v", i, later)
				}
			}
		}
	}
	if latest < 100 {
		t.Errorf("%d phones ask until the latest end", latest)
	}
}

// TestHoweverTimeIsTold is P7.9.
func TestHoweverTimeIsTold(t *testing.T) {
	r := rand.New(rand.NewSource(76))
	for range 1000 {
		k, draws := randomRules(r), randomDraws(r)
		l := randomLog(r, k, draws)
		want, _, e := access.Replay(k, draws, l)
		expect(t, "Replay", e, e, api.OK, api.OK)
		at := 0
		var told []api.AccessEvent
		for _, e := range l {
			for range r.Intn(3) {
				at += r.Intn(e.At - at + 1)
				told = append(told, pass(at))
			}
			at = e.At
			told = append(told, e)
		}
		got, _, e := access.Replay(k, draws, told)
		expect(t, "Replay with more events", got, e, want, api.OK)
	}
}
