package sched_test

import (
	"fmt"
	"math/rand"
	"slices"
	"testing"

	"downtilt/api"
	"downtilt/sched"
)

// TestAdmissionExample is the example 2 of the chapter.
func TestAdmissionExample(t *testing.T) {
	v, b, e := exampleSure(), exampleBest(), guaranteed("e", api.SchedEmergency, 10, 1, 80, 0, 1)
	a, f := sched.Admit(exampleSite(), []api.SchedBearer{v, b}, e)
	expect(t, "Admit", a, f, api.SchedAdmission{Bearers: []api.SchedBearer{b, e}, Removed: []string{"v"}}, api.OK)
	a, f = sched.Admit(exampleSite(), []api.SchedBearer{b}, v)
	expect(t, "Admit", a, f, api.SchedAdmission{Bearers: []api.SchedBearer{b, v}}, api.OK)
	a, f = sched.Admit(exampleSite(), nil, b)
	expect(t, "Admit the first one", a, f, api.SchedAdmission{Bearers: []api.SchedBearer{b}}, api.OK)
}

func namesOf(l []api.SchedBearer) []string {
	var all []string
	for _, x := range l {
		all = append(all, x.Name)
	}
	return all
}

// TestRemovals is of cases in which it matters who is removed.
func TestRemovals(t *testing.T) {
	type list = []api.SchedBearer
	const sure, emergency = api.SchedSure, api.SchedEmergency
	s := exampleSite()
	s.Control = 8
	bests := list{best("a", 2, 0), best("b", 5, 0), best("c", 5, 0), best("d", 1, 0)}
	sures := list{needing("e", sure, 100, 1), needing("f", sure, 7, 1), needing("g", sure, 100, 1), needing("h", emergency, 100, 1)}
	full := slices.Concat(bests, sures)
	emergencies := list{needing("i", emergency, 1, 1), needing("j", emergency, 1, 1), needing("k", emergency, 1, 1), needing("l", emergency, 1, 1)}
	for _, x := range []struct {
		what    string
		l       list
		x       api.SchedBearer
		removed []string
		e       api.Errno
	}{
		{"no place for best effort", full, best("x", 0, 0), nil, api.ErrRefused},
		{"no place for a sure one", full, needing("x", sure, 0, 1), nil, api.ErrRefused},
		{"a place", full[1:], needing("x", sure, 0, 1), nil, api.OK},
		{"no room for a sure one", sures, needing("x", sure, 0, 7), nil, api.ErrRefused},
		{"room for a sure one", sures, needing("x", sure, 0, 6), nil, api.OK},
		{"best effort needs no room", list{needing("y", sure, 1, 10)}, best("x", 0, 0), nil, api.OK},
		{"a place of best effort", full, needing("x", emergency, 0, 1), []string{"c"}, api.OK},
		{"a place, and room", full, needing("x", emergency, 0, 7), []string{"c", "g"}, api.OK},
		{"a place, and more room", full, needing("x", emergency, 0, 8), []string{"c", "g", "e"}, api.OK},
		{"a place, and all room", full, needing("x", emergency, 0, 9), []string{"c", "g", "e", "f"}, api.OK},
		{"too much", full, needing("x", emergency, 0, 10), nil, api.ErrRefused},
		{"room alone", full[1:], needing("x", emergency, 0, 7), []string{"g"}, api.OK},
		{"a place of a sure one", slices.Concat(sures, emergencies), needing("x", emergency, 0, 1), []string{"g"}, api.OK},
		{"no place among emergencies", slices.Concat(emergencies, list{needing("m", emergency, 1, 1), needing("n", emergency, 1, 1), needing("o", emergency, 1, 1), needing("p", emergency, 1, 1)}), needing("x", emergency, 0, 1), nil, api.ErrRefused},
		{"priority 0 goes too", list{needing("y", sure, 0, 5), needing("z", sure, 0, 5)}, needing("x", emergency, 9, 1), []string{"z"}, api.OK},
		{"a sure one that helps nothing", list{needing("y", emergency, 0, 5), needing("z", sure, 0, 1)}, needing("x", emergency, 9, 6), nil, api.ErrRefused},
	} {
		a, e := sched.Admit(s, x.l, x.x)
		var want api.SchedAdmission
		if x.e == api.OK {
			isRemoved := func(y api.SchedBearer) bool { return slices.Contains(x.removed, y.Name) }
			want.Bearers = append(slices.DeleteFunc(slices.Clone(x.l), isRemoved), x.x)
			want.Removed = x.removed
		}
		expect(t, x.what, a, e, want, x.e)
	}
}

// slowAdmit follows the chapter word by word, for arguments without an error ahead of ErrLarge.
func slowAdmit(s api.SchedSite, l []api.SchedBearer, x api.SchedBearer) (api.SchedAdmission, api.Errno) {
	if !doFit(s, []api.SchedBearer{x}) {
		return api.SchedAdmission{}, api.ErrLarge
	}
	others := slices.Clone(l)
	var removed []string
	for {
		hasPlace := len(others) < 8
		if hasPlace && doFit(s, append(slices.Clone(others), x)) {
			return api.SchedAdmission{Bearers: append(others, x), Removed: removed}, api.OK
		}
		if x.Kind != api.SchedEmergency {
			return api.SchedAdmission{}, api.ErrRefused
		}
		kind := api.SchedSure
		if !hasPlace && slices.ContainsFunc(others, func(y api.SchedBearer) bool { return y.Kind == api.SchedBest }) {
			kind = api.SchedBest
		}
		candidates := slices.DeleteFunc(slices.Clone(others), func(y api.SchedBearer) bool { return y.Kind != kind })
		if len(candidates) == 0 {
			return api.SchedAdmission{}, api.ErrRefused
		}
		slices.Reverse(candidates)
		slices.SortStableFunc(candidates, func(a, b api.SchedBearer) int { return b.Priority - a.Priority })
		removed = append(removed, candidates[0].Name)
		others = slices.DeleteFunc(others, func(y api.SchedBearer) bool { return y.Name == candidates[0].Name })
	}
}

// smallBearers have small needs on the example's site, so that many of them fit.
func smallBearers(r *rand.Rand, s api.SchedSite) []api.SchedBearer {
	var l []api.SchedBearer
	weights := [3]int{r.Intn(3), r.Intn(3), r.Intn(3)}
	for _, name := range names()[:8-max(0, r.Intn(5)-2)] {
		kind := 0
		if n := r.Intn(sumOf(weights[:]) + 1); n > weights[0] {
			kind = 1
			if n > weights[0]+weights[1] {
				kind = 2
			}
		}
		x := best(name, r.Intn(3), 10)
		if kind > 0 {
			x = needing(name, kind, r.Intn(3), 1+r.Intn(2))
		}
		if with := append(slices.Clone(l), x); doFit(s, with) {
			l = with
		}
	}
	return l
}

// TestAdmit compares with slowAdmit; it is P6.9 too.
func TestAdmit(t *testing.T) {
	r := rand.New(rand.NewSource(65))
	seen := map[string]int{}
	for range 10000 {
		s := exampleSite()
		s.Control, s.Blocks = 1+r.Intn(8), 8+r.Intn(5)
		l, x := smallBearers(r, s), needing("x", 1+r.Intn(2), r.Intn(4), 1+r.Intn(10))
		if r.Intn(4) == 0 {
			s = randomSite(r)
			l, x = randomBearers(r, s), randomBearer(r, s, "x")
		}
		want, e := slowAdmit(s, l, x)
		a, f := sched.Admit(s, l, x)
		expect(t, fmt.Sprint("Admit ", s, l, x), a, f, want, e)
		seen[fmt.Sprint(e, len(a.Removed))]++
		if f == api.OK {
			n, g := sched.CheckBearers(s, a.Bearers)
			expect(t, "CheckBearers behind an admission", n, g, 0, api.OK)
		}
		if f == api.ErrRefused && x.Kind == api.SchedEmergency {
			emergencies := slices.DeleteFunc(slices.Clone(l), func(y api.SchedBearer) bool { return y.Kind != api.SchedEmergency })
			if with := append(emergencies, x); len(with) <= 8 && doFit(s, with) {
				t.Errorf("%v refused beside %v", x, namesOf(l))
			}
		}
	}
	for _, what := range []string{"0 0", "0 1", "0 2", "0 3", fmt.Sprint(int(api.ErrRefused), " 0"), fmt.Sprint(int(api.ErrLarge), " 0")} {
		if seen[what] < 30 {
			t.Errorf("error and removals %s: %d times (%v)", what, seen[what], seen)
		}
	}
}
