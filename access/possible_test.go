package access_test

import (
	"fmt"
	"math/rand"
	"slices"
	"testing"

	"downtilt/access"
	"downtilt/api"
)

// TestPossibleExample is the example 4 of the chapter.
func TestPossibleExample(t *testing.T) {
	r := exampleRules()
	s := must(access.Begin(r, []int{1, 2}))
	l, e := access.Possible(r, s, 5)
	expect(t, "Possible at 5", l, e, []api.AccessEvent{send(5, 0, 0), send(5, 0, 1), send(5, 1, 0), send(5, 1, 1)}, api.OK)
	l, e = access.Possible(r, s, 6)
	expect(t, "Possible at 6", l, e, []api.AccessEvent(nil), api.OK)
}

// TestPossibleOrder is of several events of each kind.
func TestPossibleOrder(t *testing.T) {
	r := exampleRules()
	s := stateOf(10, waiting(1, 5, 15, 1, 1), asking(1, 13, 1, 2), waiting(0, 10, 20, 1, 3), waiting(1, 0, 10, 1, 4), idle(5), asking(1, 12, 1, 6), failed(2, 7), waiting(0, 5, 15, 1, 8))
	l, e := access.Possible(r, s, 10)
	expect(t, "Possible at 10", l, e, []api.AccessEvent{
		send(10, 4, 0), send(10, 4, 1),
		answer(10, 0, 5), answer(10, 0, 10), answer(10, 1, 0), answer(10, 1, 5),
		resolve(10, 1, 1), resolve(10, 1, 5),
		release(10, 6),
	}, api.OK)
	l, e = access.Possible(r, s, 13)
	expect(t, "Possible at 13", l, e, []api.AccessEvent{
		answer(13, 0, 5), answer(13, 0, 10), answer(13, 1, 5),
		resolve(13, 1, 1),
		release(13, 6),
	}, api.OK)
	l, e = access.Possible(r, s, api.MaxTick)
	sends := []api.AccessEvent{}
	for _, phone := range []int{0, 1, 2, 3, 4, 5, 7} {
		sends = append(sends, send(api.MaxTick, phone, 0), send(api.MaxTick, phone, 1))
	}
	expect(t, "Possible at the end", l, e, append(sends, release(api.MaxTick, 6)), api.OK)
}

// allEvents is all right events at a tick but AccessPass, ascending.
func allEvents(r api.AccessRules, phones, at int) []api.AccessEvent {
	var l []api.AccessEvent
	for phone := range phones {
		for preamble := range r.Preambles {
			l = append(l, send(at, phone, preamble))
		}
	}
	for preamble := range r.Preambles {
		for sent := range at + 1 {
			l = append(l, answer(at, preamble, sent))
		}
	}
	for phone := range phones {
		for identity := range r.Identities {
			l = append(l, resolve(at, identity, phone))
		}
	}
	for phone := range phones {
		l = append(l, release(at, phone))
	}
	return l
}

// TestPossible is P7.10: it tries all events.
func TestPossible(t *testing.T) {
	r := rand.New(rand.NewSource(77))
	seen := map[int]int{}
	for range 700 {
		k := randomRules(r)
		s := randomState(r, k)
		if s.At > 500 {
			continue
		}
		at := laterTick(r, k, s.At)
		want := slices.DeleteFunc(allEvents(k, len(s.Phones), at), func(e api.AccessEvent) bool {
			_, f := access.Apply(k, s, e)
			return f != api.OK
		})
		got, e := access.Possible(k, s, at)
		expect(t, fmt.Sprint("Possible ", k, s, at), got, e, want, api.OK)
		for _, x := range got {
			seen[x.Kind]++
		}
	}
	for kind := range api.AccessPass {
		if seen[kind] < 100 {
			t.Errorf("%d events of the kind %d", seen[kind], kind)
		}
	}
}
