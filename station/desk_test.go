package station_test

import (
	"fmt"
	"math/rand"
	"reflect"
	"slices"
	"testing"

	"downtilt/api"
	"downtilt/station"
)

func TestNilDesk(t *testing.T) {
	var d *station.Desk
	e := d.Enter(entryOf("ann day 1"))
	expect(t, "Enter", e, e, api.ErrNil, api.ErrNil)
	e = d.Enter(api.StationEntry{})
	expect(t, "Enter nothing", e, e, api.ErrNil, api.ErrNil)
	e = d.Undo()
	expect(t, "Undo", e, e, api.ErrNil, api.ErrNil)
	expect(t, "Log", d.Log(), api.OK, []api.StationEntry(nil), api.OK)
	for _, question := range []string{"day", "", "count x"} {
		answer, e := d.Ask(question)
		expect(t, "Ask", answer, e, "", api.ErrNil)
	}
}

// TestDeskExample enters, undoes and asks.
func TestDeskExample(t *testing.T) {
	d := must(station.New(exampleHouse()))
	ask := func(question, want string, f api.Errno) {
		t.Helper()
		answer, e := d.Ask(question)
		expect(t, "Ask "+question, answer, e, want, f)
	}
	enter := func(told string, f api.Errno) {
		t.Helper()
		e := d.Enter(entryOf(told))
		expect(t, "Enter "+told, e, e, f, f)
	}
	e := d.Undo()
	expect(t, "Undo nothing", e, e, api.ErrNone, api.ErrNone)
	ask("day", "0", api.OK)
	enter("ann day 3", api.OK)
	enter("ann day 2", api.ErrOrder)
	ask("day", "3", api.OK)
	enter("ann count x 1", api.OK)
	ask("count x", "0", api.OK)
	ask("count y", "", api.ErrMissing)
	ask("count", "", api.ErrSyntax)
	expect(t, "Log", toldBy(d.Log()), api.OK, []string{"ann day 3", "ann count x 1"}, api.OK)
	e = d.Undo()
	expect(t, "Undo", e, e, api.OK, api.OK)
	ask("count x", "", api.ErrMissing)
	enter("ann day 4", api.OK)
	expect(t, "Log", toldBy(d.Log()), api.OK, []string{"ann day 3", "ann day 4"}, api.OK)
	for range 58 {
		enter("ann day 4", api.OK)
	}
	enter("ann day 4", api.ErrFull)
	expect(t, "Log", len(d.Log()), api.OK, 60, api.OK)
	for range 60 {
		e := d.Undo()
		expect(t, "Undo", e, e, api.OK, api.OK)
	}
	e = d.Undo()
	expect(t, "Undo nothing", e, e, api.ErrNone, api.ErrNone)
	enter("ann day 1", api.OK)
	ask("day", "1", api.OK)
}

// TestDesks compares desks with Accept and Ask (P10.8).
func TestDesks(t *testing.T) {
	r := rand.New(rand.NewSource(112))
	for range 60 {
		h := randomHouse(r)
		d := must(station.New(h))
		kinds := randomKinds(r)
		var log []api.StationEntry
		for range r.Intn(60) {
			if r.Intn(8) == 0 {
				e, f := d.Undo(), api.OK
				if len(log) == 0 {
					f = api.ErrNone
				}
				expect(t, "Undo", e, e, f, f)
				log = log[:max(0, len(log)-1)]
			} else {
				x := api.StationEntry{By: randomPerson(r, h), Text: randomText(r, h, must(station.StateOf(h, log)), kinds)}
				behind, f := station.Accept(h, log, x)
				e := d.Enter(x)
				expect(t, fmt.Sprint("Enter ", x), e, e, f, f)
				if f == api.OK {
					log = behind
				}
			}
			expect(t, "Log", d.Log(), api.OK, log, api.OK)
			question := oneOf(r, "day", "use", "bearers", "removed", "rest", "roots", "bank", "walk", "count a", "count b", "x")
			want, f := station.Ask(h, log, question)
			answer, e := d.Ask(question)
			expect(t, "Ask "+question, answer, e, want, f)
		}
	}
}

// TestDesksKeepTheirOwn changes the house and the logs that desks were told, and told: they do not change (R3).
func TestDesksKeepTheirOwn(t *testing.T) {
	r := rand.New(rand.NewSource(113))
	for range 20 {
		h := randomHouse(r)
		given := roomy(r, reflect.ValueOf(h)).Interface().(api.StationHouse)
		d, other := must(station.New(given)), must(station.New(given))
		log := randomLog(r, h)
		for _, x := range log {
			if e := d.Enter(x); e != api.OK {
				t.Fatal(e)
			}
		}
		told := d.Log()
		for _, l := range slicesIn(reflect.ValueOf(given)) {
			for i := range l.Len() {
				spoil(r, l.Index(i), 1)
			}
		}
		for i := range told {
			told[i] = api.StationEntry{}
		}
		expect(t, "Log", d.Log(), api.OK, log, api.OK)
		for _, question := range []string{"day", "use", "bearers", "removed", "rest", "roots", "bank", "walk"} {
			want := must(station.Ask(h, log, question))
			answer, e := d.Ask(question)
			expect(t, "Ask "+question, answer, e, want, api.OK)
			want = must(station.Ask(h, nil, question))
			answer, e = other.Ask(question)
			expect(t, "Ask of another desk "+question, answer, e, want, api.OK)
		}
	}
}

// TestLogsOfDesks are of their own, also behind Undo and Enter.
func TestLogsOfDesks(t *testing.T) {
	d := must(station.New(exampleHouse()))
	for date := range 5 {
		if e := d.Enter(entryOf(fmt.Sprint("ann day ", date))); e != api.OK {
			t.Fatal(e)
		}
	}
	before := d.Log()
	kept := slices.Clone(before)
	d.Undo()
	d.Enter(entryOf("ben day 9"))
	expect(t, "an earlier log", before, api.OK, kept, api.OK)
	log := d.Log()
	_ = append(log, entryOf("ben day 10"))
	d.Enter(entryOf("ben day 11"))
	expect(t, "Log", d.Log(), api.OK, append(kept[:4:4], logOf("ben day 9", "ben day 11")...), api.OK)
}
