package station_test

import (
	"fmt"
	"maps"
	"slices"
	"strings"

	"downtilt/api"
	"downtilt/grid"
	"downtilt/move"
	"downtilt/plan"
	"downtilt/sched"
)

// The slow versions of this file follow the definitions of the chapter, for houses that are right.

// slowBook is a book that is told by the entries that were accepted, and by what other packages made of them. What else is asked is looked up among the entries.
type slowBook struct {
	house    api.StationHouse
	accepted []string
	versions []api.GridCarrier
	bearers  []api.SchedBearer
	removed  int
	walk     api.MoveState
}

func slowFrom(h api.StationHouse) slowBook {
	return slowBook{house: h, versions: []api.GridCarrier{h.Carrier}, walk: must(move.Begin(h.Net, 0))}
}

// isWordOfNumber tells whether a text is a number of at most seven digits.
func isWordOfNumber(s string) bool {
	for _, c := range s {
		if c < '0' || c > '9' {
			return false
		}
	}
	return s == "0" || s != "" && s[0] != '0' && len(s) <= 7
}

func slowNumber(s string) int {
	n := 0
	for _, c := range s {
		n = 10*n + int(c-'0')
	}
	return n
}

func slowIsName(s string) bool {
	const letters = "abcdefghijklmnopqrstuvwxyzABCDEFGHIJKLMNOPQRSTUVWXYZ"
	return s != "" && len(s) <= 12 && strings.Contains(letters, s[:1]) && strings.Trim(s, letters+"0123456789-") == ""
}

// slowAlone is the error of an entry alone.
func slowAlone(x api.StationEntry) api.Errno {
	switch {
	case !slowIsName(x.By):
		return api.ErrName
	case x.Text == "" || strings.Contains(x.Text, "\n"):
		return api.ErrForm
	case len(x.Text) > 400:
		return api.ErrLarge
	}
	return api.OK
}

// slowForms is the words behind that of a kind ("n" a name, "0" a number, ".." any), and the role.
var slowForms = map[string]struct {
	words string
	role  int
}{
	"day": {"0", 0}, "config": {"..", 1}, "use": {"0", 1}, "back": {"", 0}, "admit": {"..", 0}, "end": {"n", 0},
	"rest": {"n", 1}, "wake": {"n", 0}, "raise": {"n", 0}, "clear": {"n", 0}, "load": {"000", 1}, "piece": {"00", 1},
	"try": {"0", 2}, "confirm": {"", 1}, "reject": {"", 0}, "count": {"n0", 0}, "walk": {"..", 0},
}

// slowSyntax tells whether words are of the form of a kind.
func slowSyntax(words []string) bool {
	form, ok := slowForms[words[0]]
	for _, word := range words {
		ok = ok && word != ""
	}
	if !ok || form.words == ".." {
		return ok && len(words) > 1
	}
	if len(words) != 1+len(form.words) {
		return false
	}
	for i, kind := range form.words {
		if kind == '0' && !isWordOfNumber(words[1+i]) {
			return false
		}
	}
	return true
}

// entered is the book behind an entry, or the same one beside its error.
func (s slowBook) entered(x api.StationEntry) (slowBook, api.Errno) {
	if e := slowAlone(x); e != api.OK {
		return s, e
	}
	role := -1
	for _, person := range s.house.People {
		if person.Name == x.By {
			role = person.Role
		}
	}
	words := strings.Split(x.Text, " ")
	switch {
	case role == -1:
		return s, api.ErrMissing
	case !slowSyntax(words):
		return s, api.ErrSyntax
	case role < slowForms[words[0]].role:
		return s, api.ErrAllowed
	}
	later, e := s.done(words)
	if e != api.OK {
		return s, e
	}
	later.accepted = append(slices.Clone(later.accepted), x.Text)
	return later, api.OK
}

func (s slowBook) done(words []string) (slowBook, api.Errno) {
	text := strings.Join(words[1:], " ")
	switch words[0] {
	case "config":
		c, e := grid.ParseCarrier(text)
		if e == api.OK {
			e = slowCarrier(c)
		}
		if e == api.OK && len(s.versions) == 10 {
			e = api.ErrFull
		}
		s.versions = append(slices.Clone(s.versions), c)
		return s, e
	case "admit":
		x, e := sched.ParseBearer(text)
		if e != api.OK {
			return s, e
		}
		behind, e := sched.Admit(s.house.Sched, s.bearers, x)
		s.removed += len(s.bearers) + 1 - len(behind.Bearers)
		s.bearers = behind.Bearers
		return s, e
	case "end":
		left := slices.DeleteFunc(slices.Clone(s.bearers), func(x api.SchedBearer) bool { return x.Name == text })
		if len(left) == len(s.bearers) {
			return s, api.ErrMissing
		}
		s.bearers = left
	case "walk":
		event, e := move.ParseEvent(text)
		if e != api.OK {
			return s, e
		}
		s.walk, e = move.Apply(s.house.Net, s.walk, event)
		return s, e
	default:
		return s, s.refusal(words)
	}
	return s, api.OK
}

// slowCarrier tells why a carrier may not be used.
func slowCarrier(c api.GridCarrier) api.Errno {
	for b := range c.Signals {
		for a := range b {
			if must(grid.Share(c, a, b)) {
				return api.ErrClash
			}
		}
	}
	if _, e := grid.Missing(c); e != api.ErrNone {
		return api.ErrGap
	}
	return api.OK
}

// refusal is of an entry that other packages do not look at.
func (s slowBook) refusal(words []string) api.Errno {
	numbers := []int{0}
	for _, word := range words[1:] {
		numbers = append(numbers, slowNumber(word))
	}
	x := s.state()
	var all []api.Errno
	add := func(is bool, e api.Errno) {
		if is {
			all = append(all, e)
		}
	}
	switch kind := words[0]; kind {
	case "day":
		add(numbers[1] > 100000, api.ErrRange)
		add(numbers[1] < x.Day, api.ErrOrder)
	case "use":
		add(numbers[1] >= len(s.versions), api.ErrMissing)
		add(numbers[1] == x.Used[len(x.Used)-1], api.ErrDouble)
		add(len(x.Used) >= 20, api.ErrFull)
	case "back":
		add(len(x.Used) < 2, api.ErrNone)
	case "rest", "wake":
		cell := slices.IndexFunc(s.house.Plan.Cells, func(c api.PlanCell) bool { return c.Name == words[1] })
		rests := slices.Contains(x.Resting, cell)
		add(cell < 0, api.ErrMissing)
		add(kind == "rest" && rests, api.ErrDouble)
		add(kind == "wake" && !rests, api.ErrState)
		add(kind == "rest" && len(all) == 0 && !slowMayRest(s.house, append(slices.Clone(x.Resting), cell)), api.ErrBreak)
	case "raise", "clear":
		alarm := slices.IndexFunc(s.house.Alarms, func(c api.StationAlarm) bool { return c.Name == words[1] })
		isRaised := slices.Contains(x.Raised, alarm)
		add(alarm < 0, api.ErrMissing)
		add(kind == "raise" && isRaised, api.ErrDouble)
		add(kind == "clear" && !isRaised, api.ErrState)
	case "load":
		add(numbers[1] > 1, api.ErrMissing)
		add(numbers[1] == x.Active || x.Trial != -1, api.ErrBusy)
		add(numbers[2] < 1 || numbers[2] > 1000000 || numbers[3] < 1 || numbers[3] > 20, api.ErrRange)
	case "piece":
		add(numbers[1] > 1, api.ErrMissing)
		add(x.Banks[numbers[1]%2].Status != api.StationLoading, api.ErrState)
		add(numbers[2] != x.Banks[numbers[1]%2].Got, api.ErrOrder)
	case "try":
		add(numbers[1] > 1, api.ErrMissing)
		add(x.Banks[numbers[1]%2].Status != api.StationReady, api.ErrState)
	case "confirm", "reject":
		add(x.Trial == -1, api.ErrNone)
	case "count":
		add(!slowIsName(words[1]), api.ErrName)
		add(numbers[2] > 65535, api.ErrRange)
		counter := slices.IndexFunc(x.Counters, func(c api.StationCounter) bool { return c.Name == words[1] })
		add(counter < 0 && len(x.Counters) == 6, api.ErrFull)
		add(counter >= 0 && len(x.Counters[max(0, counter)].Readings) == 30, api.ErrFull)
	}
	if len(all) > 0 {
		return all[0]
	}
	return api.OK
}

// slowMayRest takes cells in any order.
func slowMayRest(h api.StationHouse, cells []int) bool {
	slices.Sort(cells)
	return must(plan.MayRest(h.Plan, cells))
}

// state looks up all that the entries tell.
func (s slowBook) state() api.StationState {
	x := api.StationState{Versions: s.versions, Used: []int{0}, Bearers: s.bearers, Removed: s.removed, Walk: s.walk, Trial: -1}
	x.Banks[0] = api.StationBank{Version: 1, Status: api.StationGood}
	last := map[string]string{}
	for _, text := range s.accepted {
		word, left, _ := strings.Cut(text, " ")
		last[left] = word
		switch word {
		case "use":
			x.Used = append(x.Used, slowNumber(left))
		case "back":
			x.Used = x.Used[:len(x.Used)-1]
		case "count":
			name, reading, _ := strings.Cut(left, " ")
			i := slices.IndexFunc(x.Counters, func(c api.StationCounter) bool { return c.Name == name })
			if i < 0 {
				i, x.Counters = len(x.Counters), append(x.Counters, api.StationCounter{Name: name})
			}
			x.Counters[i].Readings = append(x.Counters[i].Readings, slowNumber(reading))
		}
		s.banks(&x, text)
	}
	for cell, c := range s.house.Plan.Cells {
		if last[c.Name] == "rest" {
			x.Resting = append(x.Resting, cell)
		}
	}
	for kind, c := range s.house.Alarms {
		if last[c.Name] == "raise" {
			x.Raised = append(x.Raised, kind)
		}
	}
	return x
}

// banks carries out what an entry does with the day, and with the banks.
func (s slowBook) banks(x *api.StationState, text string) {
	words := append(strings.Split(text, " "), "0")
	number := slowNumber(strings.Trim(words[1], "abcdefghijklmnopqrstuvwxyz-"))
	fail := func() {
		x.Banks[x.Active].Status = api.StationBad
		x.Active, x.Trial = 1-x.Active, -1
	}
	switch words[0] {
	case "day":
		x.Day = number
		if x.Trial != -1 && x.Day >= x.Trial+4 {
			fail()
		}
	case "load":
		x.Banks[number] = api.StationBank{Version: slowNumber(words[2]), Pieces: slowNumber(words[3]), Status: api.StationLoading}
	case "piece":
		x.Banks[number].Got++
		if x.Banks[number].Got >= x.Banks[number].Pieces {
			x.Banks[number].Status = api.StationReady
		}
	case "try":
		x.Banks[number].Status = api.StationOnTrial
		x.Active, x.Trial = number, x.Day
	case "confirm":
		x.Banks[x.Active].Status = api.StationGood
		x.Trial = -1
	case "reject":
		fail()
	}
}

// slowReach tells which kinds of alarms each one brings about.
func slowReach(h api.StationHouse) map[[2]int]bool {
	reach := map[[2]int]bool{}
	for kind, x := range h.Alarms {
		for _, cause := range x.Causes {
			reach[[2]int{cause, kind}] = true
		}
	}
	for by := range h.Alarms {
		for a := range h.Alarms {
			for b := range h.Alarms {
				if reach[[2]int{a, by}] && reach[[2]int{by, b}] {
					reach[[2]int{a, b}] = true
				}
			}
		}
	}
	return reach
}

func slowBroughtAbout(h api.StationHouse, kind int) []int {
	var l []int
	for pair := range slowReach(h) {
		if pair[0] == kind {
			l = append(l, pair[1])
		}
	}
	slices.Sort(l)
	return l
}

func slowRoots(h api.StationHouse, raised []int) []int {
	reach := slowReach(h)
	var roots []int
	for _, kind := range raised {
		if !slices.ContainsFunc(raised, func(other int) bool { return reach[[2]int{other, kind}] }) {
			roots = append(roots, kind)
		}
	}
	return roots
}

// slowLeastCauses tries all sets of each size, in their lexicographic order.
func slowLeastCauses(h api.StationHouse, raised []int) []int {
	reach := slowReach(h)
	explains := func(set []int) bool {
		for _, kind := range raised {
			if !slices.ContainsFunc(set, func(by int) bool { return by == kind || reach[[2]int{by, kind}] }) {
				return false
			}
		}
		return true
	}
	for sets := [][]int{nil}; ; {
		var greater [][]int
		for _, set := range sets {
			if explains(set) {
				return set
			}
			for n := range h.Alarms {
				if len(set) == 0 || n > set[len(set)-1] {
					greater = append(greater, append(slices.Clone(set), n))
				}
			}
		}
		sets = greater
	}
}

// slowTotal counts one by one.
func slowTotal(readings []int) int {
	total := 0
	for i := range readings {
		for n := readings[max(0, i-1)]; n != readings[i]; n = (n + 1) % 65536 {
			total++
		}
	}
	return total
}

// slowRecord is the text of a record.
func slowRecord(number int, x api.StationEntry) string {
	sum := number + 1
	for _, text := range []string{x.By, " ", x.Text} {
		for i := range len(text) {
			sum = (257*sum + int(text[i]) + 1) % 998244353
		}
	}
	return fmt.Sprintf("%d %d %s %s", number, sum, x.By, x.Text)
}

// slowLeft tries all numbers that any entry might have.
func slowLeft(ring []string) api.StationLeft {
	right := map[int]api.StationEntry{}
	for number := range 60 {
		text := ring[number%len(ring)]
		words := append(strings.SplitN(text, " ", 4), "", "", "", "")
		x := api.StationEntry{By: words[2], Text: words[3]}
		if slowAlone(x) == api.OK && text == slowRecord(number, x) {
			right[number] = x
		}
	}
	if len(right) == 0 {
		return api.StationLeft{}
	}
	var left api.StationLeft
	left.First = slices.Max(slices.Collect(maps.Keys(right))) + 1
	for {
		x, ok := right[left.First-1]
		if !ok {
			return left
		}
		left.First--
		left.Entries = append([]api.StationEntry{x}, left.Entries...)
	}
}

// slowReport is the report of a state.
func slowReport(h api.StationHouse, x api.StationState) string {
	list := func(word string, names []string) string {
		if len(names) == 0 {
			names = []string{"-"}
		}
		return word + " " + strings.Join(names, " ") + "\n"
	}
	var bearers, resting, roots []string
	for _, b := range x.Bearers {
		bearers = append(bearers, b.Name)
	}
	for _, cell := range x.Resting {
		resting = append(resting, h.Plan.Cells[cell].Name)
	}
	for _, kind := range slowRoots(h, x.Raised) {
		roots = append(roots, h.Alarms[kind].Name)
	}
	bank := "good"
	if x.Banks[x.Active].Status == api.StationOnTrial {
		bank = "trial"
	}
	s := fmt.Sprintf("day %d\nuse %d\n", x.Day, x.Used[len(x.Used)-1])
	s += list("bearers", bearers) + fmt.Sprintf("removed %d\n", x.Removed) + list("rest", resting) + list("roots", roots)
	s += fmt.Sprintf("bank %d %d %s\nwalk %d %d\n", x.Active, x.Banks[x.Active].Version, bank, x.Walk.Phase, x.Walk.Serving)
	for _, c := range x.Counters {
		s += fmt.Sprintf("count %s %d\n", c.Name, slowTotal(c.Readings))
	}
	return s
}

// slowDay is the texts of the entries of a day.
func slowDay(h api.StationHouse, seed, steps int) []string {
	x := seed
	draw := func(n int) int {
		x = 48271 * x % 998244353
		return x % n
	}
	chief := h.People[slices.IndexFunc(h.People, func(p api.StationPerson) bool { return p.Role == api.StationChief })].Name
	s := slowFrom(h)
	for step := range steps {
		text := ""
		from := func(word string, names []string) {
			if len(names) > 0 {
				text = word + " " + names[draw(len(names))]
			}
		}
		var bearers, kinds, raised, cells, resting, events []string
		now := s.state()
		for _, b := range now.Bearers {
			bearers = append(bearers, b.Name)
		}
		for kind, a := range h.Alarms {
			kinds = append(kinds, a.Name)
			if slices.Contains(now.Raised, kind) {
				raised = append(raised, a.Name)
			}
		}
		for cell, c := range h.Plan.Cells {
			cells = append(cells, c.Name)
			if slices.Contains(now.Resting, cell) {
				resting = append(resting, c.Name)
			}
		}
		switch sort := draw(8); sort {
		case 0, 1:
			kind, priority := draw(3), draw(5)
			weight, power := 1+draw(5), draw(10)
			text = fmt.Sprint("admit c", step, " ", []string{"best", "sure", "emergency"}[kind], " ", priority, " ", weight, " ", power)
			if kind == 0 {
				text += " 0 0 0 0"
				break
			}
			least, burst := draw(len(h.Sched.Table)), 1+draw(100)
			rate, delay := draw(50), 1+draw(5)
			text += fmt.Sprint(" ", least, " ", burst, " ", rate, " ", delay)
		case 2:
			from("end", bearers)
		case 3:
			from("raise", kinds)
		case 4:
			from("clear", raised)
		case 5:
			from("rest", cells)
		case 6:
			from("wake", resting)
		case 7:
			at := now.Walk.At + draw(10)
			for _, event := range must(move.Possible(h.Net, now.Walk, at)) {
				events = append(events, move.FormatEvent(event))
			}
			from("walk", events)
		}
		s, _ = s.entered(api.StationEntry{By: chief, Text: text})
	}
	return s.accepted
}
