package station_test

import (
	"fmt"
	"math"
	"math/rand"
	"reflect"
	"slices"
	"strings"
	"testing"

	"downtilt/api"
	"downtilt/grid"
	"downtilt/station"
)

// same compares results. A nil list and an empty one are the same.
func same(a, b any) bool {
	return reflect.TypeOf(a) == reflect.TypeOf(b) && (a == nil || sameValue(reflect.ValueOf(a), reflect.ValueOf(b)))
}

func sameValue(a, b reflect.Value) bool {
	switch a.Kind() {
	case reflect.Slice, reflect.Array:
		for i := range min(a.Len(), b.Len()) {
			if !sameValue(a.Index(i), b.Index(i)) {
				return false
			}
		}
		return a.Len() == b.Len()
	case reflect.Struct:
		for i := range a.NumField() {
			if !sameValue(a.Field(i), b.Field(i)) {
				return false
			}
		}
		return true
	case reflect.Interface:
		return same(a.Interface(), b.Interface())
	}
	return a.Equal(b)
}

// expect compares a result and its error with what they should be.
func expect(t *testing.T, what string, got any, e api.Errno, want any, f api.Errno) {
	t.Helper()
	if !same(got, want) || e != f {
		t.Errorf("%s: %v, error %d; want %v, error %d", what, got, e, want, f)
	}
}

// must returns a result whose error is none.
func must[X any](x X, e api.Errno) X {
	if e != api.OK {
		panic(fmt.Sprint("error ", e))
	}
	return x
}

const (
	carrierLine = "carrier c 4 48;part 0 0 4;" + syncLines + ";" + laterLines
	syncLines   = "signal sync 0 20 0 0 2 2 0 2 1 0;signal broadcast 0 20 0 0 4 2 0 2 1 0"
	laterLines  = "signal control 0 1 0 - 0 1 0 4 1 0;signal reference 0 5 0 - 8 1 0 4 6 1"
	// moreLine has data of a second part, clashLine has them beside the control, and gapLine has no control.
	moreLine  = "carrier more 5 48;part 0 0 4;part 1 24 1;" + syncLines + ";" + laterLines + ";signal data 1 1 0 0 2 2 0 1 1 0"
	clashLine = "carrier clash 4 48;part 0 0 4;part 1 24 1;" + syncLines + ";" + laterLines + ";signal data 1 1 0 0 0 2 0 1 1 0"
	gapLine   = "carrier gap 4 48;part 0 0 4;" + syncLines
)

// carrierOf is the carrier with a line.
func carrierOf(line string) api.GridCarrier {
	return must(grid.ParseCarrier(line))
}

// exampleHouse is that of the chapter's examples.
func exampleHouse() api.StationHouse {
	return api.StationHouse{
		Name: "radio",
		People: []api.StationPerson{
			{Name: "ann", Role: api.StationWatch},
			{Name: "ben", Role: api.StationEngineer},
			{Name: "cat", Role: api.StationChief},
		},
		Carrier: carrierOf(carrierLine),
		Sched:   api.SchedSite{Blocks: 10, Control: 3, Power: 1000, Table: []int{0, 10, 20, 40}},
		Net:     api.MoveNetwork{Cells: []string{"x", "y"}, Neighbours: [][2]int{{0, 1}}, Limit: 100},
		Plan: api.PlanPlan{
			Raster: api.PlanRaster{Rows: [][]int{{0}}},
			Cells: []api.PlanCell{
				{Name: "p", Identity: 4, Mast: 30, Power: 600, Tilt: 10},
				{Name: "q", Identity: 5, Mast: 30, Power: 600, Tilt: 10},
			},
			Losses: []api.PlanLoss{{Square: 2, Loss: 1000}},
			Hidden: 200,
			Step:   50,
			Least:  -900,
		},
		Alarms: []api.StationAlarm{
			{Name: "power", Severity: 3},
			{Name: "fan", Severity: 1, Causes: []int{0}},
			{Name: "heat", Severity: 2, Causes: []int{0, 1}},
		},
	}
}

// entryOf is an entry told as its person and its text.
func entryOf(told string) api.StationEntry {
	by, text, _ := strings.Cut(told, " ")
	return api.StationEntry{By: by, Text: text}
}

// logOf is a log told as its entries.
func logOf(told ...string) []api.StationEntry {
	var log []api.StationEntry
	for _, x := range told {
		log = append(log, entryOf(x))
	}
	return log
}

// toldBy is a log told as its entries.
func toldBy(log []api.StationEntry) []string {
	var told []string
	for _, x := range log {
		told = append(told, x.By+" "+x.Text)
	}
	return told
}

// repeated is a log of the same entry so many times.
func repeated(told string, times int) []api.StationEntry {
	return slices.Repeat(logOf(told), times)
}

// arguments are of all functions.
type arguments struct {
	House    api.StationHouse
	Log      []api.StationEntry
	Entry    api.StationEntry
	A, B     api.GridCarrier
	Kind     int
	Raised   []int
	Good     []int
	All      []int
	Number   int
	Alone    api.StationEntry
	Lines    []api.StationEntry
	Size     int
	Texts    []string
	X        int
	Seed     int
	Steps    int
	Question string
}

// rightArguments are right for each function.
func rightArguments() arguments {
	lines := logOf("a x", "b y z", "c w")
	return arguments{
		House:    exampleHouse(),
		Log:      logOf("ann raise heat", "ben load 1 2 2", "cat count drops 65530", "cat count drops 5", "ann walk data 1", "ann admit v sure 1 1 20 1 100 20 4"),
		Entry:    entryOf("ben rest p"),
		A:        carrierOf(carrierLine),
		B:        carrierOf(moreLine),
		Kind:     1,
		Raised:   []int{1, 2},
		Good:     []int{0, 9},
		All:      []int{0, 12},
		Number:   5,
		Alone:    entryOf("a x"),
		Lines:    lines,
		Size:     2,
		Texts:    must(station.Ring(lines, 2)),
		X:        7,
		Seed:     11,
		Steps:    20,
		Question: "count drops",
	}
}

// function is one of the package, with the results ahead of its error.
type function struct {
	name string
	call func(arguments) ([]any, api.Errno)
}

func functions() []function {
	type a = arguments
	type r = []any
	type e = api.Errno
	return []function{
		{"CheckHouse", func(a a) (r, e) { _, e := station.CheckHouse(a.House); return nil, e }},
		{"CheckLog", func(a a) (r, e) { _, e := station.CheckLog(a.House, a.Log); return nil, e }},
		{"StateOf", func(a a) (r, e) { return one(station.StateOf(a.House, a.Log)) }},
		{"Accept", func(a a) (r, e) { return one(station.Accept(a.House, a.Log, a.Entry)) }},
		{"DiffOf", func(a a) (r, e) { return one(station.DiffOf(a.A, a.B)) }},
		{"BroughtAbout", func(a a) (r, e) { return one(station.BroughtAbout(a.House, a.Kind)) }},
		{"RootsOf", func(a a) (r, e) { return one(station.RootsOf(a.House, a.Raised)) }},
		{"LeastCauses", func(a a) (r, e) { return one(station.LeastCauses(a.House, a.Raised)) }},
		{"WorstOf", func(a a) (r, e) { return one(station.WorstOf(a.House, a.Raised)) }},
		{"TotalOf", func(a a) (r, e) { return one(station.TotalOf(a.Good)) }},
		{"RateOf", func(a a) (r, e) { return one(station.RateOf(a.Good, a.All)) }},
		{"SumOf", func(a a) (r, e) { return one(station.SumOf(a.Number, a.Alone)) }},
		{"Ring", func(a a) (r, e) { return one(station.Ring(a.Lines, a.Size)) }},
		{"Left", func(a a) (r, e) { return one(station.Left(a.Texts)) }},
		{"Next", func(a a) (r, e) { return one(station.Next(a.X)) }},
		{"Day", func(a a) (r, e) { return one(station.Day(a.House, a.Seed, a.Steps)) }},
		{"Report", func(a a) (r, e) { return one(station.Report(a.House, a.Log)) }},
		{"Ask", func(a a) (r, e) { return one(station.Ask(a.House, a.Log, a.Question)) }},
		{"New", func(a a) (r, e) { return one(station.New(a.House)) }},
	}
}

func one[X any](x X, e api.Errno) ([]any, api.Errno) {
	return []any{x}, e
}

// mistake is a change that makes right arguments wrong: which of them, and the error of that.
type mistake struct {
	touches string
	change  func(*arguments)
	e       api.Errno
}

// wrong is a value that is not right, and its error.
type wrong[X any] struct {
	x X
	e api.Errno
}

// mistakes puts values that are not right into an argument.
func mistakes[X any](touches string, at func(*arguments) *X, all []wrong[X]) []mistake {
	var l []mistake
	for _, w := range all {
		l = append(l, mistake{touches, func(a *arguments) { *at(a) = w.x }, w.e})
	}
	return l
}

// beyond is mistakes of a number that is beyond a range.
func beyond(touches string, at func(*arguments) *int, lo, hi int, e api.Errno) []mistake {
	return mistakes(touches, at, []wrong[int]{{lo - 1, e}, {hi + 1, e}, {math.MinInt, e}, {math.MaxInt, e}})
}

// checkErrors makes right arguments wrong by each mistake, and by each two that touch different ones: the error of the earlier one comes, and beside it nothing.
func checkErrors(t *testing.T, name string, all ...[]mistake) {
	t.Helper()
	f := functionOf(name)
	right, e := f.call(rightArguments())
	if e != api.OK {
		t.Fatalf("%s of right arguments: error %d", name, e)
	}
	list := slices.Concat(all...)
	for i, x := range list {
		for j, y := range list[i:] {
			if j > 0 && x.touches == y.touches {
				continue
			}
			a := rightArguments()
			y.change(&a)
			x.change(&a)
			results, e := f.call(a)
			if e != x.e || !areNothing(results) || len(results) != len(right) {
				t.Errorf("%s, mistakes %d (%s) and %d (%s): %v, error %d, want error %d", name, i, x.touches, i+j, y.touches, results, e, x.e)
			}
		}
	}
}

func functionOf(name string) function {
	all := functions()
	return all[slices.IndexFunc(all, func(f function) bool { return f.name == name })]
}

// areNothing tells whether all results are zero values, or empty lists.
func areNothing(results []any) bool {
	return !slices.ContainsFunc(results, func(x any) bool { return !isNothing(reflect.ValueOf(x)) })
}

func isNothing(v reflect.Value) bool {
	switch v.Kind() {
	case reflect.Slice:
		return v.Len() == 0
	case reflect.Struct:
		for i := range v.NumField() {
			if !isNothing(v.Field(i)) {
				return false
			}
		}
		return true
	}
	return v.IsZero()
}

// upTo is a number from 0 to most, often an end.
func upTo(r *rand.Rand, most int) int {
	switch r.Intn(6) {
	case 0:
		return 0
	case 1:
		return most
	}
	return r.Intn(most + 1)
}

// oneOf is one of several.
func oneOf[X any](r *rand.Rand, all ...X) X {
	return all[r.Intn(len(all))]
}

// randomHouse has people of each role.
func randomHouse(r *rand.Rand) api.StationHouse {
	h := api.StationHouse{
		Name:    oneOf(r, "radio", "r", "site-12"),
		Carrier: carrierOf(oneOf(r, carrierLine, moreLine)),
		Sched:   randomSite(r),
		Net:     randomNetwork(r),
		Plan:    randomPlan(r),
		Alarms:  randomAlarms(r),
	}
	people := 3 + upTo(r, 9)
	roles := r.Perm(people)
	for i := range people {
		h.People = append(h.People, api.StationPerson{Name: fmt.Sprint("person-", i), Role: roles[i] % 3})
	}
	return h
}

func randomSite(r *rand.Rand) api.SchedSite {
	s := api.SchedSite{Blocks: 1 + upTo(r, 19), Control: 1 + upTo(r, 7), Power: upTo(r, 300)}
	bits := 0
	for range 1 + upTo(r, 15) {
		s.Table = append(s.Table, bits)
		bits += r.Intn(20)
	}
	return s
}

// randomNetwork is often one in which phones are soon connected again.
func randomNetwork(r *rand.Rand) api.MoveNetwork {
	n := api.MoveNetwork{Limit: 1 + upTo(r, oneOf(r, 4, 20, 99999))}
	cells := 1 + upTo(r, 5)
	for b := range cells {
		n.Cells = append(n.Cells, fmt.Sprint("cell-", b))
		for a := range b {
			if r.Intn(3) > 0 {
				n.Neighbours = append(n.Neighbours, [2]int{a, b})
			}
		}
	}
	return n
}

// randomPlan is often one in which some cells may rest and some may not.
func randomPlan(r *rand.Rand) api.PlanPlan {
	p := api.PlanPlan{Losses: []api.PlanLoss{{Square: 1, Loss: 900}, {Square: 4, Loss: 1000 + r.Intn(300)}}, Hidden: 200, Step: 10, Least: -500}
	rows, columns := 1+r.Intn(3), 1+r.Intn(3)
	for range rows {
		p.Raster.Rows = append(p.Raster.Rows, make([]int, columns))
	}
	for cell := range 1 + upTo(r, 5) {
		at := [2]int{r.Intn(rows), r.Intn(columns)}
		p.Cells = append(p.Cells, api.PlanCell{Name: fmt.Sprint("p", cell), Identity: cell, At: at, Mast: 30, Power: 500, Tilt: 10})
	}
	return p
}

func randomAlarms(r *rand.Rand) []api.StationAlarm {
	var alarms []api.StationAlarm
	rare := 1 + r.Intn(4)
	for kind := range upTo(r, 10) {
		x := api.StationAlarm{Name: fmt.Sprint("alarm-", kind), Severity: upTo(r, 3)}
		for cause := range kind {
			if r.Intn(rare) == 0 {
				x.Causes = append(x.Causes, cause)
			}
		}
		alarms = append(alarms, x)
	}
	return alarms
}

// randomSet is some of so many things, ascending.
func randomSet(r *rand.Rand, count int) []int {
	var set []int
	rare := 1 + r.Intn(3)
	for n := range count {
		if r.Intn(rare) == 0 {
			set = append(set, n)
		}
	}
	return set
}

// randomReadings often wrap.
func randomReadings(r *rand.Rand) []int {
	var readings []int
	for range upTo(r, 30) {
		readings = append(readings, upTo(r, 65535))
	}
	return readings
}

// randomPerson is often a chief of a house, now and then none of it.
func randomPerson(r *rand.Rand, h api.StationHouse) string {
	if r.Intn(30) == 0 {
		return oneOf(r, "nobody", "", "a b")
	}
	x := h.People[r.Intn(len(h.People))]
	if x.Role != api.StationChief && r.Intn(2) == 0 {
		return randomPerson(r, h)
	}
	return x.Name
}

// randomText is that of an entry behind a state, which is often accepted.
func randomText(r *rand.Rand, h api.StationHouse, x api.StationState, kinds []string) string {
	bank := oneOf(r, 1-x.Active, 1-x.Active, 1-x.Active, x.Active)
	kind := oneOf(r, kinds...)
	if strings.Contains("load piece try", kind) && r.Intn(3) > 0 {
		kind = nextOfBank(x.Banks[bank])
	}
	switch kind {
	case "day":
		return fmt.Sprint("day ", oneOf(r, x.Day+r.Intn(3), x.Day+r.Intn(3), max(0, x.Day-1), upTo(r, 110000)))
	case "config":
		return "config " + oneOf(r, carrierLine, carrierLine, moreLine, clashLine, gapLine, "carrier c 4")
	case "use":
		return fmt.Sprint("use ", r.Intn(len(x.Versions)+1))
	case "admit":
		return "admit " + randomBearer(r, h)
	case "end":
		return "end " + fmt.Sprint("b", r.Intn(12))
	case "rest", "wake":
		return kind + " " + oneOf(r, "p0", "p1", "p2", "p3", "p4", "p5")
	case "raise", "clear":
		return kind + " " + fmt.Sprint("alarm-", r.Intn(11))
	case "load":
		return fmt.Sprint("load ", bank, " ", 1+upTo(r, 999999), " ", 1+r.Intn(3))
	case "piece":
		return fmt.Sprint("piece ", bank, " ", max(0, x.Banks[bank].Got-r.Intn(4)/3))
	case "try":
		return fmt.Sprint("try ", bank)
	case "count":
		return fmt.Sprint("count ", oneOf(r, "a", "b", "c", "d", "e", "f", "g", "h-8"), " ", upTo(r, 65535))
	case "walk":
		return "walk " + randomEvent(r, h, x)
	default:
		return kind
	}
}

// nextOfBank is a kind of entries that leads a bank on.
func nextOfBank(x api.StationBank) string {
	switch x.Status {
	case api.StationLoading:
		return "piece"
	case api.StationReady:
		return "try"
	}
	return "load"
}

func randomBearer(r *rand.Rand, h api.StationHouse) string {
	name := fmt.Sprint("b", r.Intn(12))
	if r.Intn(3) == 0 {
		return fmt.Sprint(name, " best ", r.Intn(4), " 1 10 0 0 0 0")
	}
	kind := oneOf(r, "sure", "sure", "sure", "emergency")
	return fmt.Sprint(name, " ", kind, " ", r.Intn(4), " 1 ", r.Intn(4), " ", r.Intn(len(h.Sched.Table)), " ", 1+r.Intn(30), " ", r.Intn(8), " ", 1+r.Intn(4))
}

// randomEvent is the text of an event that leads the phone of a walk on, often.
func randomEvent(r *rand.Rand, h api.StationHouse, x api.StationState) string {
	word := oneOf(r, "data", "send", "ack", "forward", "switch", "cancel", "fail", "pass")
	switch x.Walk.Phase {
	case api.MoveConnected:
		word = oneOf(r, word, "prepare")
	case api.MovePrepared:
		word = oneOf(r, word, "command")
	case api.MoveMoving:
		word = oneOf(r, word, "complete")
	case api.MoveLost:
		word = oneOf(r, word, "recover")
	}
	text := fmt.Sprint(word, " ", x.Walk.At+r.Intn(3))
	if word == "prepare" || word == "recover" {
		text += fmt.Sprint(" ", r.Intn(len(h.Net.Cells)))
	}
	return text
}

// allKinds is the words of all kinds of entries.
var allKinds = []string{"day", "config", "use", "back", "admit", "end", "rest", "wake", "raise", "clear", "load", "piece", "try", "confirm", "reject", "count", "walk"}

// randomKinds is kinds that go together, or all.
func randomKinds(r *rand.Rand) []string {
	return oneOf(r, allKinds, allKinds, []string{"admit", "admit", "end"}, []string{"config", "use", "use", "back"}, []string{"rest", "rest", "wake"}, []string{"raise", "clear"}, []string{"config"}, []string{"day", "load", "piece", "piece", "try", "try", "confirm", "reject"}, []string{"load", "piece", "try", "confirm", "reject"}, []string{"count"}, []string{"walk"})
}

// spoilText changes a text a little.
func spoilText(r *rand.Rand, s string) string {
	i := r.Intn(len(s) + 1)
	switch r.Intn(4) {
	case 0:
		return s[:i]
	case 1:
		return s[:i] + oneOf(r, " ", "0", "9", "-", "x", "\n", "\t", "\xff") + s[i:]
	case 2:
		return s + oneOf(r, " ", " 1", " x", "0", "\n")
	}
	return s[:i] + oneOf(r, "", " ", "1") + s[min(len(s), i+1):]
}

// randomLog is accepted.
func randomLog(r *rand.Rand, h api.StationHouse) []api.StationEntry {
	s := slowFrom(h)
	kinds := randomKinds(r)
	var log []api.StationEntry
	for range upTo(r, 60) {
		x := api.StationEntry{By: randomPerson(r, h), Text: randomText(r, h, s.state(), kinds)}
		if later, e := s.entered(x); e == api.OK {
			s, log = later, append(log, x)
		}
	}
	return log
}
