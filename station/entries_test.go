package station_test

import (
	"fmt"
	"math/rand"
	"slices"
	"strings"
	"testing"

	"downtilt/api"
	"downtilt/move"
	"downtilt/sched"
	"downtilt/station"
)

// step is an entry, and its error.
type step struct {
	told string
	e    api.Errno
}

// stepsOf are entries that are told, each one or more behind its error.
func stepsOf(told ...any) []step {
	var l []step
	e := api.OK
	for _, x := range told {
		switch x := x.(type) {
		case api.Errno:
			e = x
		case string:
			l = append(l, step{x, e})
		}
	}
	return l
}

// enter enters entries, looks for their errors, and returns the state behind all that are accepted.
func enter(t *testing.T, h api.StationHouse, steps []step) api.StationState {
	t.Helper()
	var log []api.StationEntry
	for i, x := range steps {
		behind, e := station.Accept(h, log, entryOf(x.told))
		want := append(slices.Clone(log), entryOf(x.told))
		if x.e != api.OK {
			want = nil
		}
		expect(t, fmt.Sprint("Accept, entry ", i, " ", x.told), behind, e, want, x.e)
		number, e := station.CheckLog(h, append(slices.Clone(log), entryOf(x.told)))
		if x.e == api.OK {
			expect(t, fmt.Sprint("CheckLog ", i, " ", x.told), number, e, 0, x.e)
			log = behind
		} else {
			expect(t, fmt.Sprint("CheckLog ", i, " ", x.told), number, e, len(log), x.e)
		}
	}
	return must(station.StateOf(h, log))
}

// begun is the state at the beginning of the example house.
func begun() api.StationState {
	return api.StationState{
		Versions: []api.GridCarrier{carrierOf(carrierLine)},
		Used:     []int{0},
		Banks:    [2]api.StationBank{{Version: 1, Status: api.StationGood}, {}},
		Trial:    -1,
		Walk:     must(move.Begin(exampleHouse().Net, 0)),
	}
}

func TestBeginning(t *testing.T) {
	x, e := station.StateOf(exampleHouse(), nil)
	expect(t, "StateOf no entries", x, e, begun(), api.OK)
}

// TestTrials is the example 1 of the chapter, and what it says more exactly.
func TestTrials(t *testing.T) {
	loaded := []any{"ann day 10", "ben load 1 2 2", "ben piece 1 0", "ben piece 1 1", "cat try 1"}
	for _, x := range []struct {
		more []any
		want string // the day, the banks, the active one, and since when the trial runs
	}{
		{[]any{}, "10 [{1 0 0 4} {2 2 2 3}] 1 10"},
		{[]any{"ann day 13"}, "13 [{1 0 0 4} {2 2 2 3}] 1 10"},
		{[]any{"ann day 14"}, "14 [{1 0 0 4} {2 2 2 5}] 0 -1"},
		{[]any{"ann day 13", "ann day 14", "ann day 20"}, "20 [{1 0 0 4} {2 2 2 5}] 0 -1"},
		{[]any{"ann day 100000"}, "100000 [{1 0 0 4} {2 2 2 5}] 0 -1"},
		{[]any{"ann day 13", "ben confirm", "ann day 14"}, "14 [{1 0 0 4} {2 2 2 4}] 1 -1"},
		{[]any{"ann reject"}, "10 [{1 0 0 4} {2 2 2 5}] 0 -1"},
		{[]any{"ann reject", api.ErrNone, "ann reject", "cat confirm", api.ErrState, "cat try 1", "cat try 0", api.ErrBusy, "ben load 0 3 1"}, "10 [{1 0 0 4} {2 2 2 5}] 0 -1"},
		{[]any{"cat confirm", api.ErrNone, "cat confirm", "ann reject", api.ErrState, "cat try 1", "cat try 0"}, "10 [{1 0 0 4} {2 2 2 4}] 1 -1"},
		{[]any{api.ErrMissing, "ben load 2 3 1", "ben load 7 0 0", "ben piece 2 0", "cat try 2", api.ErrBusy, "ben load 0 3 1", "ben load 1 3 1", "ben load 0 0 0", api.ErrState, "cat try 0", "cat try 1"}, "10 [{1 0 0 4} {2 2 2 3}] 1 10"},
		{[]any{"ben confirm", "cat load 0 7 1", "cat piece 0 0", "cat try 0", "ann day 13"}, "13 [{7 1 1 3} {2 2 2 4}] 0 10"},
		{[]any{"ben confirm", "cat load 0 7 1", "cat piece 0 0", "ann day 13", "cat try 0", "ann day 16"}, "16 [{7 1 1 3} {2 2 2 4}] 0 13"},
		{[]any{"ben confirm", "cat load 0 7 1", "cat piece 0 0", "ann day 13", "cat try 0", "ann day 17"}, "17 [{7 1 1 5} {2 2 2 4}] 1 -1"},
		{[]any{"ben confirm", "cat load 0 7 1", "cat piece 0 0", "cat try 0", "cat reject"}, "10 [{7 1 1 5} {2 2 2 4}] 1 -1"},
		{[]any{"ann reject", "ben load 1 9 3"}, "10 [{1 0 0 4} {9 3 0 1}] 0 -1"}, // a bad one begins anew
		{[]any{"ann reject", "ben load 1 9 1", "cat piece 1 0", "cat load 1 8 2", "cat piece 1 0", "cat load 1 8 2", "cat piece 1 0"}, "10 [{1 0 0 4} {8 2 1 1}] 0 -1"},
		{[]any{"ben confirm", "ben load 0 7 20"}, "10 [{7 20 0 1} {2 2 2 4}] 1 -1"}, // so does a good one
	} {
		got := enter(t, exampleHouse(), stepsOf(append(slices.Clone(loaded), x.more...)...))
		expect(t, fmt.Sprint("StateOf ", x.more), fmt.Sprint(got.Day, got.Banks, got.Active, got.Trial), api.OK, x.want, api.OK)
		want := begun()
		want.Day, want.Banks, want.Active, want.Trial = got.Day, got.Banks, got.Active, got.Trial
		expect(t, fmt.Sprint("StateOf ", x.more), got, api.OK, want, api.OK)
	}
}

func TestDates(t *testing.T) {
	want := begun()
	want.Day = 100000
	got := enter(t, exampleHouse(), stepsOf("ann day 0", "ann day 0", "ann day 5", api.ErrOrder, "ann day 4", "ann day 0", api.ErrRange, "ann day 100001", "ann day 9999999", api.OK, "ann day 5", "ann day 100000", "cat day 100000"))
	expect(t, "StateOf", got, api.OK, want, api.OK)
}

func TestLoading(t *testing.T) {
	want := begun()
	want.Banks[1] = api.StationBank{Version: 1000000, Pieces: 3, Got: 3, Status: api.StationReady}
	got := enter(t, exampleHouse(), stepsOf(
		api.ErrMissing, "ben load 2 0 0", "ben load 9999999 1 1", "ben piece 2 0", "cat try 2",
		api.ErrBusy, "ben load 0 1 1", "ben load 0 0 0",
		api.ErrRange, "ben load 1 0 1", "ben load 1 1000001 1", "ben load 1 1 0", "ben load 1 1 21", "ben load 1 0 0",
		api.ErrState, "ben piece 1 0", "ben piece 1 5", "ben piece 0 0", "cat try 1", "cat try 0",
		api.OK, "ben load 1 1000000 20", api.ErrState, "cat try 1", "ben piece 0 0", api.ErrOrder, "ben piece 1 1",
		api.OK, "ben piece 1 0", api.ErrOrder, "ben piece 1 0", "ben piece 1 2", api.OK, "ben piece 1 1", api.ErrState, "cat try 1",
		api.OK, "ben load 1 1000000 3", api.ErrOrder, "ben piece 1 2", api.OK, "ben piece 1 0", "cat piece 1 1", "ben piece 1 2",
		api.ErrState, "ben piece 1 3", "ben piece 1 0",
		api.ErrAllowed, "ben try 1", "ann try 1", "ann load 1 1 1", "ann piece 1 3", "ann confirm", "ben try 7", "ann load 7 7 7",
		api.ErrNone, "ben confirm", "ann reject"))
	expect(t, "StateOf", got, api.OK, want, api.OK)
}

// TestConfigurations is of versions, of their use, and of the way back.
func TestConfigurations(t *testing.T) {
	const small = "carrier small 4 48;part 0 0 4;" + syncLines + ";" + laterLines
	want := begun()
	want.Versions = append(want.Versions, carrierOf(moreLine), carrierOf(small), carrierOf(carrierLine))
	want.Used = []int{0, 2, 0}
	got := enter(t, exampleHouse(), stepsOf(
		api.ErrMissing, "ben use 1", "ben use 9999999", api.ErrDouble, "ben use 0", api.ErrNone, "ann back",
		api.ErrSyntax, "ben config x", "ben config carrier c 4 x", "ben config carrier c 4 48;part 0 0 4 5",
		api.ErrMissing, "ben config carrier c 4", api.ErrName, "ben config carrier 1 4 48", api.ErrShape, "ben config carrier c 4 48",
		api.ErrBreak, "ben config carrier c 4 48;part 0 0 5", api.ErrClash, "ben config "+clashLine, api.ErrGap, "ben config "+gapLine,
		api.ErrAllowed, "ann config "+moreLine, "ann config x", "ann use 0", "ann use 1",
		api.OK, "ben config "+moreLine, "cat config "+small, "ben config "+carrierLine, "ben use 2", api.ErrDouble, "ben use 2", api.ErrMissing, "ben use 4",
		api.OK, "ben use 1", "ben use 3", "ann back", api.ErrDouble, "ben use 1", api.OK, "ann back", "ann back", api.ErrNone, "cat back",
		api.OK, "ben use 2", "ben use 0"))
	expect(t, "StateOf", got, api.OK, want, api.OK)
	var told []any
	for range 9 {
		told = append(told, "ben config "+moreLine)
	}
	told = append(told, api.ErrFull, "ben config "+moreLine, api.ErrGap, "ben config "+gapLine, api.OK)
	want.Used = []int{0}
	for i := range 19 {
		told = append(told, fmt.Sprint("ben use ", 1+i%9))
		want.Used = append(want.Used, 1+i%9)
	}
	told = append(told, api.ErrFull, "ben use 0", api.ErrDouble, "ben use 1", api.ErrMissing, "ben use 10")
	got = enter(t, exampleHouse(), stepsOf(told...))
	expect(t, "Used", got.Used, api.OK, want.Used, api.OK)
	expect(t, "Versions", len(got.Versions), api.OK, 10, api.OK)
	got = enter(t, exampleHouse(), stepsOf(append(told, api.OK, "ann back", "ben use 0")...))
	expect(t, "Used", got.Used, api.OK, append(want.Used[:19], 0), api.OK)
}

// TestWordsOfCarriers is of carriers whose lines have tabs, which are no blanks of an entry, and more blanks, which are two.
func TestWordsOfCarriers(t *testing.T) {
	tabs := strings.ReplaceAll(carrierLine, ";", "\t;\t")
	want := begun()
	want.Versions = append(want.Versions, want.Versions[0])
	got := enter(t, exampleHouse(), stepsOf("ben config "+tabs, api.ErrSyntax, "ben config "+strings.Replace(carrierLine, " ", "  ", 1), "ben config "+carrierLine+" "))
	expect(t, "StateOf", got, api.OK, want, api.OK)
}

// TestBearers is the example 2 of the chapter, and more.
func TestBearers(t *testing.T) {
	bearer := func(text string) api.SchedBearer { return must(sched.ParseBearer(text)) }
	want := begun()
	want.Bearers, want.Removed = []api.SchedBearer{bearer("e emergency 0 1 10 1 80 0 1")}, 1
	got := enter(t, exampleHouse(), stepsOf("ann admit v sure 1 1 20 1 100 20 4", "ann admit e emergency 0 1 10 1 80 0 1"))
	expect(t, "StateOf", got, api.OK, want, api.OK)
	want.Bearers, want.Removed = []api.SchedBearer{bearer("b best 0 1 10 0 0 0 0"), bearer("e emergency 0 1 10 1 80 0 1"), bearer("v best 0 1 10 0 0 0 0")}, 2
	got = enter(t, exampleHouse(), stepsOf(
		api.ErrMissing, "ann end v", "ann end 1", api.ErrSyntax, "ann admit v", "ann admit v sure 1 1 20 1 100 20", "ann admit v sure 1 1 20 1 100 20 4 5", "ann admit v sures 1 1 20 1 100 20 4",
		api.ErrName, "ann admit v_ sure 1 1 20 1 100 20 4"))
	expect(t, "StateOf", got, api.OK, begun(), api.OK)
	got = enter(t, exampleHouse(), stepsOf(
		"ann admit v sure 1 1 20 1 100 20 4", api.ErrExists, "cat admit v best 1 1 20 0 0 0 0", api.ErrRange, "ann admit w sure 1 1 20 4 100 20 4", "ann admit w sure -1 1 20 1 100 20 4",
		api.ErrZero, "ann admit w sure 1 1 20 0 100 20 4", api.ErrForm, "ann admit w best 1 1 20 0 1 0 0", api.ErrLarge, "ann admit w sure 1 1 20 1 1000 20 4", api.ErrRefused, "ann admit w sure 1 1 20 1 100 80 4",
		api.OK, "ann admit w sure 2 1 20 1 100 20 4", "ann admit b best 0 1 10 0 0 0 0", "ann admit e emergency 0 1 10 1 80 0 1",
		api.ErrMissing, "ann end w", "ann end v", "ann end x", api.ErrRefused, "ann admit f emergency 0 1 10 1 80 0 1", api.OK, "ann admit x best 0 1 10 0 0 0 0", "ann end x", "ann admit v best 0 1 10 0 0 0 0"))
	expect(t, "StateOf", got, api.OK, want, api.OK)
	got = enter(t, exampleHouse(), stepsOf(
		"ann admit v sure 1 1 20 1 100 20 4", "ann admit e emergency 0 1 10 1 80 0 1", "ann end e",
		"ann admit v sure 1 1 20 1 100 20 4", "ann admit w sure 1 1 20 1 100 20 4", "ann admit e emergency 0 1 10 1 80 0 1", "ann end e"))
	want.Bearers, want.Removed = nil, 3
	expect(t, "StateOf", got, api.OK, want, api.OK)
}

// TestResting is the example 3 of the chapter, and more.
func TestResting(t *testing.T) {
	want := begun()
	want.Resting = []int{0}
	got := enter(t, exampleHouse(), stepsOf(
		"ben rest p", api.ErrBreak, "ben rest q", api.ErrAllowed, "ann rest p", "ann rest q", "ann rest x", api.ErrDouble, "ben rest p", api.ErrMissing, "ben rest x", "ann wake x", "ben rest P", api.ErrState, "ann wake q",
		api.OK, "ann wake p", api.ErrState, "ann wake p", api.OK, "ben rest q", api.ErrBreak, "ben rest p", api.OK, "ann wake q", "cat rest p"))
	expect(t, "StateOf", got, api.OK, want, api.OK)
	h := exampleHouse()
	h.Plan.Cells = append(h.Plan.Cells, h.Plan.Cells[0], h.Plan.Cells[0])
	h.Plan.Cells[2].Name, h.Plan.Cells[3].Name = "r", "s"
	want.Resting = []int{0, 1, 3}
	got = enter(t, h, stepsOf("ben rest s", "ben rest p", "ben rest q", api.ErrBreak, "ben rest r"))
	expect(t, "StateOf", got, api.OK, want, api.OK)
	want.Resting = []int{0, 1, 2}
	got = enter(t, h, stepsOf("ben rest s", "ben rest p", "ben rest q", "ann wake s", "ben rest r"))
	expect(t, "StateOf", got, api.OK, want, api.OK)
	h.Plan.Least = 1000
	want.Resting = []int{0, 1, 2, 3}
	got = enter(t, h, stepsOf("ben rest s", "ben rest p", "ben rest q", "ben rest r")) // nothing is covered
	expect(t, "StateOf", got, api.OK, want, api.OK)
}

func TestRaising(t *testing.T) {
	want := begun()
	want.Raised = []int{0, 2}
	got := enter(t, exampleHouse(), stepsOf(
		api.ErrMissing, "ann raise p", "ann clear p", "ann raise Heat", api.ErrState, "ann clear heat", api.OK, "ann raise heat", api.ErrDouble, "ben raise heat", api.ErrState, "ann clear fan",
		api.OK, "ann raise power", "ann clear heat", "ann raise fan", "cat raise heat", "ann clear fan"))
	expect(t, "StateOf", got, api.OK, want, api.OK)
}

func TestCounting(t *testing.T) {
	want := begun()
	want.Counters = []api.StationCounter{{Name: "drops", Readings: []int{65535, 0, 7, 7}}, {Name: "a-1", Readings: []int{1}}}
	got := enter(t, exampleHouse(), stepsOf(
		api.ErrName, "ann count 1 1", "ann count -a 70000", "ann count abcdefghijklm 1", api.ErrRange, "ann count drops 65536", "ann count drops 9999999",
		api.OK, "ann count drops 65535", "ann count drops 0", "ann count a-1 1", "ben count drops 7", "cat count drops 7"))
	expect(t, "StateOf", got, api.OK, want, api.OK)
	many := []any{}
	for i := range 30 {
		many = append(many, fmt.Sprint("ann count a ", i))
	}
	many = append(many, "ann count b 1", "ann count c 1", "ann count d 1", "ann count e 1", "ann count f 1")
	got = enter(t, exampleHouse(), stepsOf(append(many, api.ErrFull, "ann count g 1", "ann count a 1", "ann count abcdefghijkl 1", api.ErrRange, "ann count g 65536", "ann count a 65536", api.ErrName, "ann count 1 1", api.OK, "ann count b 2")...))
	expect(t, "Counters", len(got.Counters), api.OK, 6, api.OK)
	expect(t, "Readings", len(got.Counters[0].Readings), api.OK, 30, api.OK)
	expect(t, "Readings", got.Counters[1].Readings, api.OK, []int{1, 2}, api.OK)
}

func TestWalking(t *testing.T) {
	want := begun()
	want.Walk = must(move.ParseState("9 3 7 1 -1 0 0 2 1|1|0"))
	got := enter(t, exampleHouse(), stepsOf(
		api.ErrSyntax, "ann walk data", "ann walk jump 1", "ann walk data x", "ann walk data 1 0", "ann walk prepare 1", api.ErrState, "ann walk complete 1", api.ErrMissing, "ann walk prepare 1 2", "ann walk prepare 1 0", api.ErrRange, "ann walk pass 1000000001",
		api.OK, "ann walk data 1", "ann walk send 2", "ann walk prepare 3 1", api.ErrOrder, "ann walk command 2", api.OK, "ann walk command 4", "ben walk forward 5", "cat walk complete 6", "ann walk data 6", "ann walk fail 7", "ann walk pass 9"))
	expect(t, "StateOf", got, api.OK, want, api.OK)
	got = enter(t, exampleHouse(), stepsOf("ann walk fail 5", "ann walk pass 105"))
	expect(t, "Since", got.Walk.Since, api.OK, 105, api.OK)
}

// TestRoles is of all kinds of entries, each one by a person of each role.
func TestRoles(t *testing.T) {
	h := exampleHouse()
	ready := []string{"ben load 1 2 1", "ben piece 1 0", "cat try 1", "ben rest p", "ann raise fan", "ann admit v best 0 1 1 0 0 0 0", "ben config " + moreLine, "ben use 1"}
	for _, x := range []struct {
		kind, text string
		role       int
		ahead      []string
	}{
		{"day", "1", 0, ready}, {"config", carrierLine, 1, ready}, {"use", "0", 1, ready}, {"back", "", 0, ready}, {"admit", "w best 0 1 1 0 0 0 0", 0, ready}, {"end", "v", 0, ready},
		{"rest", "p", 1, nil}, {"wake", "p", 0, ready}, {"raise", "heat", 0, ready}, {"clear", "fan", 0, ready}, {"load", "1 1 1", 1, nil}, {"piece", "1 0", 1, ready[:1]}, {"try", "1", 2, ready[:2]},
		{"confirm", "", 1, ready}, {"reject", "", 0, ready}, {"count", "x 1", 0, ready}, {"walk", "pass 1", 0, ready},
	} {
		for role, by := range []string{"ann", "ben", "cat"} {
			told := strings.TrimSuffix(by+" "+x.kind+" "+x.text, " ")
			_, e := station.Accept(h, logOf(x.ahead...), entryOf(told))
			want := api.OK
			if role < x.role {
				want = api.ErrAllowed
			}
			expect(t, "Accept "+told, e, e, want, want)
		}
	}
}

// TestTexts is of texts as long as they may be, and of words that are no words of any kind.
func TestTexts(t *testing.T) {
	h := exampleHouse()
	long := "config " + carrierLine + strings.Repeat(";", 400-len("config "+carrierLine))
	for _, x := range []step{{"ben " + long, api.OK}, {"ben " + long + ";", api.ErrLarge}, {"ann end " + strings.Repeat("x", 396), api.ErrMissing}, {"ann end " + strings.Repeat("x", 397), api.ErrLarge}} {
		_, e := station.Accept(h, nil, entryOf(x.told))
		expect(t, "Accept "+x.told, e, e, x.e, x.e)
	}
	for _, text := range wrongTexts {
		for _, by := range []string{"ann", "cat"} {
			_, e := station.Accept(h, nil, api.StationEntry{By: by, Text: text})
			expect(t, "Accept "+text, e, e, api.ErrSyntax, api.ErrSyntax)
		}
	}
}

// TestLogs is of logs that are long, and of the numbers of their wrong entries.
func TestLogs(t *testing.T) {
	h := exampleHouse()
	full := repeated("ann day 1", 60)
	for _, x := range []struct {
		log    []api.StationEntry
		number int
		e      api.Errno
	}{
		{nil, 0, api.OK},
		{full, 0, api.OK},
		{append(slices.Clone(full), entryOf("ann day 1")), 0, api.ErrLarge},
		{make([]api.StationEntry, 61), 0, api.ErrLarge},
		{append(slices.Clone(full[:59]), entryOf("ann day 0")), 59, api.ErrOrder},
		{append(slices.Clone(full[:3]), entryOf("ann day 0"), entryOf("ann day")), 3, api.ErrOrder},
		{make([]api.StationEntry, 60), 0, api.ErrName},
	} {
		number, e := station.CheckLog(h, x.log)
		expect(t, fmt.Sprint("CheckLog of ", len(x.log)), number, e, x.number, x.e)
	}
	_, e := station.Accept(h, full[:59], entryOf("ann day 1"))
	expect(t, "Accept the last one", e, e, api.OK, api.OK)
	_, e = station.Accept(h, full, entryOf("ann day 1"))
	expect(t, "Accept one more", e, e, api.ErrFull, api.ErrFull)
	h.Name = ""
	number, e := station.CheckLog(h, logOf("ann day 1", "ann day 0"))
	expect(t, "CheckLog of a wrong house", number, e, 0, api.ErrName)
	h = exampleHouse()
	h.Alarms[1].Severity = 4
	number, e = station.CheckLog(h, logOf("ann day 1", "ann day 0"))
	expect(t, "CheckLog of a wrong house", number, e, 0, api.ErrRange)
}

// TestRandomLogs compares entries with a slow book.
func TestRandomLogs(t *testing.T) {
	r := rand.New(rand.NewSource(101))
	seen := map[string]int{}
	for range 250 {
		h := randomHouse(r)
		s := slowFrom(h)
		kinds := randomKinds(r)
		var log []api.StationEntry
		for range r.Intn(110) {
			x := api.StationEntry{By: randomPerson(r, h), Text: randomText(r, h, s.state(), kinds)}
			if r.Intn(25) == 0 {
				x.Text = spoilText(r, x.Text)
			}
			later, want := s.entered(x)
			if len(log) == api.MaxStationLog {
				want = api.ErrFull
			}
			got, e := station.Accept(h, log, x)
			word, _, _ := strings.Cut(x.Text, " ")
			seen[fmt.Sprint(word, " ", e)]++
			if want != api.OK {
				expect(t, fmt.Sprint("Accept ", toldBy(log), x), got, e, []api.StationEntry(nil), want)
				continue
			}
			log = append(log, x)
			expect(t, fmt.Sprint("Accept ", toldBy(log)), got, e, log, want)
			s = later
		}
		x, e := station.StateOf(h, log)
		expect(t, fmt.Sprint("StateOf ", toldBy(log)), x, e, s.state(), api.OK)
		report, e := station.Report(h, log)
		expect(t, fmt.Sprint("Report ", toldBy(log)), report, e, slowReport(h, s.state()), api.OK)
	}
	for kind, errors := range map[string][]api.Errno{
		"day": {api.ErrRange, api.ErrOrder}, "config": {api.ErrMissing, api.ErrClash, api.ErrGap, api.ErrFull}, "use": {api.ErrMissing, api.ErrDouble}, "back": {api.ErrNone},
		"admit": {api.ErrExists, api.ErrRefused, api.ErrLarge}, "end": {api.ErrMissing}, "rest": {api.ErrMissing, api.ErrDouble, api.ErrBreak}, "wake": {api.ErrMissing, api.ErrState},
		"raise": {api.ErrMissing, api.ErrDouble}, "clear": {api.ErrMissing, api.ErrState}, "load": {api.ErrBusy}, "piece": {api.ErrState, api.ErrOrder}, "try": {api.ErrState},
		"confirm": {api.ErrNone}, "reject": {api.ErrNone}, "count": {api.ErrFull}, "walk": {api.ErrState, api.ErrMissing},
	} {
		for _, e := range append(errors, api.OK) {
			if seen[fmt.Sprint(kind, " ", e)] < 5 {
				t.Errorf("%s, error %d: %d times", kind, e, seen[fmt.Sprint(kind, " ", e)])
			}
		}
	}
}
