package station

import (
	"slices"
	"strconv"
	"strings"

	"downtilt/api"
)

// line is a line of the report: a question, and its answer.
type line struct{ question, answer string }

// countWord is that of the questions about counters.
const countWord = "count "

// Report returns the report of a log.
func Report(h api.StationHouse, log []api.StationEntry) (string, api.Errno) {
	b, err := read(h, log)
	if err != nil {
		return "", codeOf(err)
	}
	report := ""
	for _, l := range b.lines() {
		report += l.question + " " + l.answer + "\n"
	}
	return report, api.OK
}

// Ask returns the answer to a question about a log.
func Ask(h api.StationHouse, log []api.StationEntry, question string) (string, api.Errno) {
	b, err := read(h, log)
	if err != nil {
		return "", codeOf(err)
	}
	lines := b.lines()
	i := slices.IndexFunc(lines, func(l line) bool { return l.question == question })
	if i != none {
		return lines[i].answer, api.OK
	}
	counter, isCount := strings.CutPrefix(question, countWord)
	if isCount && isName(counter) {
		return "", api.ErrMissing
	}
	return "", api.ErrSyntax
}

// lines is those of the report.
func (b *book) lines() []line {
	bank := b.Banks[b.Active]
	standing := "good"
	if b.isOnTrial() {
		standing = "trial"
	}
	lines := []line{
		{"day", strconv.Itoa(b.Day)},
		{"use", strconv.Itoa(b.inUse())},
		{"bearers", listed(namesOf(b.Bearers, bearerName))},
		{"removed", strconv.Itoa(b.Removed)},
		{"rest", listed(b.restingNames())},
		{"roots", listed(b.alarmNames(rootsOf(b.house.Alarms, b.Raised)))},
		{"bank", strconv.Itoa(b.Active) + " " + strconv.Itoa(bank.Version) + " " + standing},
		{"walk", strconv.Itoa(b.Walk.Phase) + " " + strconv.Itoa(b.Walk.Serving)},
	}
	for _, c := range b.Counters {
		lines = append(lines, line{countWord + c.Name, strconv.Itoa(totalOf(c.Readings))})
	}
	return lines
}

// alarmNames is the names of some kinds of alarms.
func (b *book) alarmNames(kinds []int) []string {
	return namesOf(kinds, func(kind int) string { return b.house.Alarms[kind].Name })
}

// restingNames is the names of the cells that rest.
func (b *book) restingNames() []string {
	return namesOf(b.Resting, func(cell int) string { return b.house.Plan.Cells[cell].Name })
}

// listed is names with single blanks between, or "-" if there are none.
func listed(names []string) string {
	if len(names) == 0 {
		return "-"
	}
	return strings.Join(names, " ")
}
