package access_test

import (
	"fmt"
	"math/rand"
	"reflect"
	"slices"
	"testing"

	"downtilt/access"
	"downtilt/api"
)

// same compares results as they are printed: so a nil list and an empty one are the same.
func same(a, b any) bool {
	return fmt.Sprintf("%T %v", a, a) == fmt.Sprintf("%T %v", b, b)
}

// expect compares a result and its error with what they should be.
func expect(t *testing.T, what string, got any, e api.Errno, want any, f api.Errno) {
	t.Helper()
	if !same(got, want) || e != f {
		t.Errorf("%s: %v, error %d; want %v, error %d", what, got, e, want, f)
	}
}

// must returns a result whose error is none.
func must[X any](x X, e api.Errno) X {
	if e != api.OK {
		panic(fmt.Sprint("error ", e))
	}
	return x
}

// exampleRules is those of the chapter's examples.
func exampleRules() api.AccessRules {
	return api.AccessRules{Preambles: 2, Every: 5, Window: 10, Wait: 4, Tries: 2, Backoff: 9, Identities: 2}
}

// manyRules leaves room for phones in all stages.
func manyRules() api.AccessRules {
	return api.AccessRules{Preambles: 3, Every: 5, Window: 10, Wait: 4, Tries: 3, Backoff: 9, Identities: 5}
}

// manyState is a right state by manyRules, with phones in all stages.
func manyState() api.AccessState {
	return stateOf(20,
		idle(7),
		waiting(2, 15, 25, 2, 8),
		asking(1, 22, 1, 9),
		back(24, 1, 10),
		done(0, 11),
		failed(3, 12),
		asking(1, 24, 3, 13))
}

func stateOf(at int, phones ...api.AccessPhone) api.AccessState {
	return api.AccessState{At: at, Phones: phones}
}

func idle(draw int) api.AccessPhone {
	return api.AccessPhone{Stage: api.AccessIdle, Preamble: -1, Identity: -1, Draw: draw}
}

func waiting(preamble, sent, until, tries, draw int) api.AccessPhone {
	return api.AccessPhone{Stage: api.AccessWaiting, Preamble: preamble, Sent: sent, Identity: -1, Until: until, Tries: tries, Draw: draw}
}

func asking(identity, until, tries, draw int) api.AccessPhone {
	return api.AccessPhone{Stage: api.AccessAsking, Preamble: -1, Identity: identity, Until: until, Tries: tries, Draw: draw}
}

func back(until, tries, draw int) api.AccessPhone {
	return api.AccessPhone{Stage: api.AccessBack, Preamble: -1, Identity: -1, Until: until, Tries: tries, Draw: draw}
}

func done(identity, draw int) api.AccessPhone {
	return api.AccessPhone{Stage: api.AccessDone, Preamble: -1, Identity: identity, Draw: draw}
}

func failed(tries, draw int) api.AccessPhone {
	return api.AccessPhone{Stage: api.AccessFailed, Preamble: -1, Identity: -1, Tries: tries, Draw: draw}
}

func send(at, phone, preamble int) api.AccessEvent {
	return api.AccessEvent{Kind: api.AccessSend, At: at, Phone: phone, Preamble: preamble}
}

func answer(at, preamble, sent int) api.AccessEvent {
	return api.AccessEvent{Kind: api.AccessAnswer, At: at, Preamble: preamble, Sent: sent}
}

func resolve(at, identity, phone int) api.AccessEvent {
	return api.AccessEvent{Kind: api.AccessResolve, At: at, Identity: identity, Phone: phone}
}

func release(at, phone int) api.AccessEvent {
	return api.AccessEvent{Kind: api.AccessRelease, At: at, Phone: phone}
}

func pass(at int) api.AccessEvent {
	return api.AccessEvent{Kind: api.AccessPass, At: at}
}

// arguments are of all functions.
type arguments struct {
	Rules     api.AccessRules
	Draws     []int
	State     api.AccessState
	Phones    int
	Event     api.AccessEvent
	Log       []api.AccessEvent
	At        int
	Identity  int
	Paging    api.AccessPaging
	Phone     int
	Other     int
	Occasion  api.AccessOccasion
	Sleep     api.AccessSleep
	Tick      int
	Last      int
	Ticks     api.Range
	Powers    api.AccessPowers
	EventText string
	StateText string
}

// rightArguments are right for each function.
func rightArguments() arguments {
	return arguments{
		Rules:     manyRules(),
		Draws:     []int{1, 2, 3},
		State:     manyState(),
		Phones:    7,
		Event:     send(25, 0, 1),
		Log:       []api.AccessEvent{send(5, 0, 1), send(5, 1, 1), answer(8, 1, 5), resolve(9, 0, 1), release(20, 1), pass(26)},
		At:        25,
		Identity:  0,
		Paging:    api.AccessPaging{Cycle: 32, Frames: 8, Occasions: 2, Offset: 3},
		Phone:     13,
		Other:     29,
		Occasion:  api.AccessOccasion{Frame: 17, Subframe: 9},
		Sleep:     api.AccessSleep{Cycle: 10, Start: 3, On: 2, Inactive: 5},
		Tick:      8,
		Last:      4,
		Ticks:     api.Range{Lo: 3, Hi: 14},
		Powers:    api.AccessPowers{Awake: 10, Asleep: 1, Wake: 3},
		EventText: "send 5 0 1",
		StateText: "0 0,-1,0,-1,0,0,1 0,-1,0,-1,0,0,2",
	}
}

// function is one of the package, with the results ahead of its error.
type function struct {
	name string
	call func(arguments) ([]any, api.Errno)
}

func functions() []function {
	type a = arguments
	type r = []any
	type e = api.Errno
	return []function{
		{"CheckRules", func(a a) (r, e) { return nil, access.CheckRules(a.Rules) }},
		{"Begin", func(a a) (r, e) { return one(access.Begin(a.Rules, a.Draws)) }},
		{"CheckState", func(a a) (r, e) { return nil, access.CheckState(a.Rules, a.State) }},
		{"CheckEvent", func(a a) (r, e) { return nil, access.CheckEvent(a.Rules, a.Phones, a.Event) }},
		{"Apply", func(a a) (r, e) { return one(access.Apply(a.Rules, a.State, a.Event)) }},
		{"Replay", func(a a) (r, e) { return withoutNumber(access.Replay(a.Rules, a.Draws, a.Log)) }},
		{"Possible", func(a a) (r, e) { return one(access.Possible(a.Rules, a.State, a.At)) }},
		{"NextChance", func(a a) (r, e) { return one(access.NextChance(a.Rules, a.At)) }},
		{"Holder", func(a a) (r, e) { return one(access.Holder(a.Rules, a.State, a.Identity)) }},
		{"Asking", func(a a) (r, e) { return one(access.Asking(a.Rules, a.State, a.Identity)) }},
		{"CheckPaging", func(a a) (r, e) { return nil, access.CheckPaging(a.Paging) }},
		{"OccasionOf", func(a a) (r, e) { return one(access.OccasionOf(a.Paging, a.Phone)) }},
		{"IsOccasion", func(a a) (r, e) { return one(access.IsOccasion(a.Paging, a.Phone, a.Occasion)) }},
		{"NextOccasion", func(a a) (r, e) { return one(access.NextOccasion(a.Paging, a.Phone, a.Occasion)) }},
		{"Together", func(a a) (r, e) { return one(access.Together(a.Paging, a.Phone, a.Other)) }},
		{"CheckSleep", func(a a) (r, e) { return nil, access.CheckSleep(a.Sleep) }},
		{"AwakeAt", func(a a) (r, e) { return one(access.AwakeAt(a.Sleep, a.Tick, a.Last)) }},
		{"NextAwake", func(a a) (r, e) { return one(access.NextAwake(a.Sleep, a.Tick)) }},
		{"AwakeIn", func(a a) (r, e) { return one(access.AwakeIn(a.Sleep, a.Ticks)) }},
		{"SleepOf", func(a a) (r, e) { return one(access.SleepOf(a.Paging, a.Phone)) }},
		{"EnergyOf", func(a a) (r, e) { return one(access.EnergyOf(a.Sleep, a.Ticks, a.Powers)) }},
		{"FormatEvent", func(a a) (r, e) { return r{access.FormatEvent(a.Event)}, api.OK }},
		{"ParseEvent", func(a a) (r, e) { return one(access.ParseEvent(a.EventText)) }},
		{"FormatState", func(a a) (r, e) { return r{access.FormatState(a.State)}, api.OK }},
		{"ParseState", func(a a) (r, e) { return one(access.ParseState(a.StateText)) }},
	}
}

func one[X any](x X, e api.Errno) ([]any, api.Errno) {
	return []any{x}, e
}

// withoutNumber leaves out the number of an event, which stands beside an error.
func withoutNumber(s api.AccessState, _ int, e api.Errno) ([]any, api.Errno) {
	return []any{s}, e
}

// mistake is a change that makes right arguments wrong: which of them, and the error of that.
type mistake struct {
	touches string
	change  func(*arguments)
	e       api.Errno
}

// wrong is a value that is not right, and its error.
type wrong[X any] struct {
	x X
	e api.Errno
}

// mistakes puts values that are not right into an argument.
func mistakes[X any](touches string, at func(*arguments) *X, all []wrong[X]) []mistake {
	var l []mistake
	for _, w := range all {
		l = append(l, mistake{touches, func(a *arguments) { *at(a) = w.x }, w.e})
	}
	return l
}

// checkErrors makes right arguments wrong by each mistake, and by each two that touch different ones: the error of the earlier one comes, and beside it nothing.
func checkErrors(t *testing.T, name string, all ...[]mistake) {
	t.Helper()
	f := functionOf(name)
	right, e := f.call(rightArguments())
	if e != api.OK {
		t.Fatalf("%s of right arguments: error %d", name, e)
	}
	list := slices.Concat(all...)
	for i, x := range list {
		for j, y := range list[i:] {
			if j > 0 && x.touches == y.touches {
				continue
			}
			a := rightArguments()
			y.change(&a)
			x.change(&a)
			results, e := f.call(a)
			if e != x.e || !areNothing(results) || len(results) != len(right) {
				t.Errorf("%s, mistakes %d (%s) and %d (%s): %v, error %d, want error %d", name, i, x.touches, i+j, y.touches, results, e, x.e)
			}
		}
	}
}

func functionOf(name string) function {
	all := functions()
	return all[slices.IndexFunc(all, func(f function) bool { return f.name == name })]
}

// areNothing tells whether all results are zero values, or empty lists.
func areNothing(results []any) bool {
	return !slices.ContainsFunc(results, func(x any) bool { return !isNothing(reflect.ValueOf(x)) })
}

func isNothing(v reflect.Value) bool {
	switch v.Kind() {
	case reflect.Slice:
		return v.Len() == 0
	case reflect.Struct:
		for i := range v.NumField() {
			if !isNothing(v.Field(i)) {
				return false
			}
		}
		return true
	}
	return v.IsZero()
}

// upTo is a number from 0 to most, often an end.
func upTo(r *rand.Rand, most int) int {
	switch r.Intn(6) {
	case 0:
		return 0
	case 1:
		return most
	}
	return r.Intn(most + 1)
}

// randomRules are often small ones, so that phones meet.
func randomRules(r *rand.Rand) api.AccessRules {
	if r.Intn(4) == 0 {
		return api.AccessRules{Preambles: 1 + upTo(r, 7), Every: 1 + upTo(r, 99), Window: 1 + upTo(r, 99), Wait: 1 + upTo(r, 99), Tries: 1 + upTo(r, 9), Backoff: upTo(r, 1000), Identities: 1 + upTo(r, 15)}
	}
	return api.AccessRules{Preambles: 1 + r.Intn(2), Every: 1 + r.Intn(4), Window: 1 + r.Intn(8), Wait: 1 + r.Intn(8), Tries: 1 + r.Intn(3), Backoff: r.Intn(6), Identities: 1 + r.Intn(3)}
}

func randomDraws(r *rand.Rand) []int {
	draws := make([]int, 1+r.Intn(8))
	for i := range draws {
		draws[i] = upTo(r, api.GeneratorPrime-1)
	}
	return draws
}

// randomEvent is one that is often possible.
func randomEvent(r *rand.Rand, k api.AccessRules, s api.AccessState, at int) api.AccessEvent {
	phone := r.Intn(len(s.Phones))
	p := s.Phones[phone]
	e := api.AccessEvent{At: at, Kind: r.Intn(api.AccessKinds)}
	switch e.Kind {
	case api.AccessSend:
		e.Phone, e.Preamble = phone, r.Intn(k.Preambles)
	case api.AccessAnswer:
		e.Preamble, e.Sent = max(0, p.Preamble), p.Sent
	case api.AccessResolve:
		e.Phone, e.Identity = phone, max(0, p.Identity)
	case api.AccessRelease:
		e.Phone = phone
	}
	return e
}

// laterTick is a tick soon behind another one, often the same or a chance.
func laterTick(r *rand.Rand, k api.AccessRules, at int) int {
	switch r.Intn(4) {
	case 0:
		return at
	case 1:
		return at + r.Intn(1+k.Window+k.Wait)
	}
	return (at + k.Every - 1) / k.Every * k.Every
}

// randomLog is accepted from the beginning on.
func randomLog(r *rand.Rand, k api.AccessRules, draws []int) []api.AccessEvent {
	s := must(access.Begin(k, draws))
	var l []api.AccessEvent
	for range r.Intn(60) {
		e := randomEvent(r, k, s, laterTick(r, k, s.At))
		if next, f := access.Apply(k, s, e); f == api.OK {
			s, l = next, append(l, e)
		}
	}
	return l
}

// randomState is one behind a log.
func randomState(r *rand.Rand, k api.AccessRules) api.AccessState {
	draws := randomDraws(r)
	s, _, e := access.Replay(k, draws, randomLog(r, k, draws))
	return must(s, e)
}

func randomPaging(r *rand.Rand) api.AccessPaging {
	cycle := r.Intn(9)
	p := api.AccessPaging{Cycle: 1 << cycle, Frames: 1 << r.Intn(cycle+1), Occasions: []int{1, 2, 4}[r.Intn(3)]}
	p.Offset = upTo(r, p.Cycle-1)
	return p
}

func randomOccasion(r *rand.Rand) api.AccessOccasion {
	return api.AccessOccasion{Frame: upTo(r, 1023), Subframe: upTo(r, 9)}
}

func randomSleep(r *rand.Rand) api.AccessSleep {
	s := api.AccessSleep{Cycle: 1 + upTo(r, []int{3, 20, 20479}[r.Intn(3)])}
	s.Start, s.On = upTo(r, s.Cycle-1), 1+upTo(r, s.Cycle-1)
	s.Inactive = upTo(r, []int{5, 30, 20480}[r.Intn(3)])
	return s
}
