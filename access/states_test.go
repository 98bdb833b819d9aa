package access_test

import (
	"fmt"
	"math/rand"
	"testing"

	"downtilt/access"
	"downtilt/api"
)

// TestRightRules is of rules at the ends of what they may be.
func TestRightRules(t *testing.T) {
	for _, r := range []api.AccessRules{
		exampleRules(),
		manyRules(),
		{Preambles: 1, Every: 1, Window: 1, Wait: 1, Tries: 1, Backoff: 0, Identities: 1},
		{Preambles: 8, Every: 100, Window: 100, Wait: 100, Tries: 10, Backoff: 1000, Identities: 16},
	} {
		e := access.CheckRules(r)
		expect(t, fmt.Sprint("CheckRules ", r), e, e, api.OK, api.OK)
	}
}

func TestBegin(t *testing.T) {
	s, e := access.Begin(exampleRules(), []int{1, 2})
	expect(t, "Begin of the examples", s, e, stateOf(0, idle(1), idle(2)), api.OK)
	last := api.GeneratorPrime - 1
	s, e = access.Begin(exampleRules(), []int{last})
	expect(t, "Begin of the last draw", s, e, stateOf(0, idle(last)), api.OK)
	draws := []int{0, 1, last, 3, 3, 5, 6, 7}
	s, e = access.Begin(exampleRules(), draws)
	expect(t, "Begin of eight phones", s, e, stateOf(0, idle(0), idle(1), idle(last), idle(3), idle(3), idle(5), idle(6), idle(7)), api.OK)
}

// TestRightStates is of phones at the ends of what they may be.
func TestRightStates(t *testing.T) {
	last := api.GeneratorPrime - 1
	many := make([]api.AccessPhone, 8)
	for i := range many {
		many[i] = done(i, 0)
	}
	greatest := api.AccessRules{Preambles: 8, Every: 100, Window: 100, Wait: 100, Tries: 10, Backoff: 1000, Identities: 16}
	const end = api.MaxTick
	for _, x := range []struct {
		r api.AccessRules
		s api.AccessState
	}{
		{manyRules(), manyState()},
		{manyRules(), stateOf(0, idle(0))},
		{manyRules(), stateOf(0, idle(last), waiting(0, 0, 10, 1, last), waiting(2, 0, 10, 3, 0))},
		{manyRules(), stateOf(20, waiting(0, 10, 20, 1, 0), waiting(0, 15, 25, 3, 0), waiting(2, 20, 30, 2, 0))},
		{manyRules(), stateOf(20, asking(0, 20, 1, last), asking(0, 24, 3, 0), asking(4, 22, 2, 0), asking(0, 24, 3, 0))},
		{manyRules(), stateOf(20, back(0, 1, last), back(29, 2, 0), back(20, 1, 0))},
		{manyRules(), stateOf(20, done(0, last), done(4, 0), failed(3, last))},
		{manyRules(), stateOf(20, many[:5]...)},
		{greatest, stateOf(20, many...)},
		{greatest, stateOf(20, done(15, 0), waiting(7, 0, 100, 10, 0), back(1020, 9, 0), asking(14, 120, 10, 0), failed(10, 0))},
		{greatest, stateOf(end, waiting(7, end, end+100, 10, 0), back(end+1000, 9, 0), asking(14, end+100, 10, 0), back(0, 1, 0))},
	} {
		e := access.CheckState(x.r, x.s)
		expect(t, fmt.Sprint("CheckState ", x.s), e, e, api.OK, api.OK)
	}
}

func TestNextChance(t *testing.T) {
	chances := func(every int) api.AccessRules {
		r := exampleRules()
		r.Every = every
		return r
	}
	for _, x := range []struct {
		every, at, want int
		e               api.Errno
	}{
		{5, 0, 0, api.OK}, {5, 1, 5, api.OK}, {5, 4, 5, api.OK}, {5, 5, 5, api.OK}, {5, 6, 10, api.OK},
		{1, 0, 0, api.OK}, {1, 7, 7, api.OK}, {1, api.MaxTick, api.MaxTick, api.OK},
		{100, 1, 100, api.OK}, {100, api.MaxTick - 99, api.MaxTick, api.OK}, {100, api.MaxTick - 100, api.MaxTick - 100, api.OK}, {100, api.MaxTick, api.MaxTick, api.OK},
		{7, api.MaxTick, 0, api.ErrNone}, {7, api.MaxTick - 6, api.MaxTick - 6, api.OK}, {7, api.MaxTick - 5, 0, api.ErrNone},
		{99, api.MaxTick - 9, 0, api.ErrNone}, {99, api.MaxTick - 10, api.MaxTick - 10, api.OK},
	} {
		chance, e := access.NextChance(chances(x.every), x.at)
		expect(t, fmt.Sprintf("NextChance of %d from %d on", x.every, x.at), chance, e, x.want, x.e)
	}
	for every := 1; every <= 100; every++ {
		for at := range 250 {
			want := at
			for want%every > 0 {
				want++
			}
			chance, e := access.NextChance(chances(every), at)
			expect(t, fmt.Sprintf("NextChance of %d from %d on", every, at), chance, e, want, api.OK)
		}
	}
}

// TestHolderAndAsking is of each identity of manyState.
func TestHolderAndAsking(t *testing.T) {
	for identity, want := range [][]int{nil, {2, 6}, nil, nil, nil} {
		phones, e := access.Asking(manyRules(), manyState(), identity)
		expect(t, fmt.Sprint("Asking ", identity), phones, e, want, api.OK)
		holder, e := access.Holder(manyRules(), manyState(), identity)
		if identity == 0 {
			expect(t, "Holder", holder, e, 4, api.OK)
		} else {
			expect(t, fmt.Sprint("Holder ", identity), holder, e, 0, api.ErrNone)
		}
	}
}

// TestQuestions looks at each phone of many states.
func TestQuestions(t *testing.T) {
	r := rand.New(rand.NewSource(71))
	holders, askers := 0, 0
	for range 2000 {
		k := randomRules(r)
		s := randomState(r, k)
		for identity := range k.Identities {
			want, f := 0, api.ErrNone
			var all []int
			for i, p := range s.Phones {
				switch {
				case p.Identity != identity:
				case p.Stage == api.AccessDone:
					want, f = i, api.OK
					holders++
				case p.Stage == api.AccessAsking:
					all = append(all, i)
					askers++
				}
			}
			holder, e := access.Holder(k, s, identity)
			expect(t, "Holder", holder, e, want, f)
			phones, e := access.Asking(k, s, identity)
			expect(t, "Asking", phones, e, all, api.OK)
		}
	}
	if holders < 200 || askers < 400 {
		t.Errorf("%d holders, %d that ask", holders, askers)
	}
}
