package station_test

import (
	"fmt"
	"math/rand"
	"strings"
	"testing"

	"downtilt/api"
	"downtilt/station"
)

// TestReportExamples is the example 8 of the chapter, and a report with all that may stand in it.
func TestReportExamples(t *testing.T) {
	h := exampleHouse()
	report, e := station.Report(h, nil)
	expect(t, "Report of no entries", report, e, "day 0\nuse 0\nbearers -\nremoved 0\nrest -\nroots -\nbank 0 1 good\nwalk 0 0\n", api.OK)
	log := logOf("ann day 7", "ben config "+moreLine, "ben use 1", "ann admit v sure 1 1 20 1 100 20 4", "ann admit e emergency 0 1 10 1 80 0 1", "ann admit b best 0 1 1 0 0 0 0",
		"ben rest q", "ann raise heat", "ann raise fan", "ben load 1 25 1", "ben piece 1 0", "cat try 1", "ann walk prepare 3 1", "ann walk command 4", "ann walk complete 5", "ann walk fail 6",
		"ann count drops 65530", "ann count calls 3", "ann count drops 5", "ann count drops 20")
	want := "day 7\nuse 1\nbearers e b\nremoved 1\nrest q\nroots fan\nbank 1 25 trial\nwalk 3 1\ncount drops 26\ncount calls 0\n"
	report, e = station.Report(h, log)
	expect(t, "Report", report, e, want, api.OK)
	for _, x := range []struct{ question, answer string }{
		{"day", "7"}, {"use", "1"}, {"bearers", "e b"}, {"removed", "1"}, {"rest", "q"}, {"roots", "fan"}, {"bank", "1 25 trial"}, {"walk", "3 1"}, {"count drops", "26"}, {"count calls", "0"},
	} {
		answer, e := station.Ask(h, log, x.question)
		expect(t, "Ask "+x.question, answer, e, x.answer, api.OK)
	}
	more := append(log, logOf("ann end e", "ann end b", "ann wake q", "ann clear heat", "ben confirm", "ann raise power", "ann back")...)
	want = "day 7\nuse 0\nbearers -\nremoved 1\nrest -\nroots power\nbank 1 25 good\nwalk 3 1\ncount drops 26\ncount calls 0\n"
	report, e = station.Report(h, more)
	expect(t, "Report", report, e, want, api.OK)
	for _, x := range []struct{ question, answer string }{{"bearers", "-"}, {"rest", "-"}, {"bank", "1 25 good"}, {"use", "0"}} {
		answer, e := station.Ask(h, more, x.question)
		expect(t, "Ask "+x.question, answer, e, x.answer, api.OK)
	}
	two := withAlarms(nil, nil, []int{0})
	report, e = station.Report(two, logOf("ann raise alarm-1", "ann raise alarm-2", "ann raise alarm-0"))
	expect(t, "Report of two roots", strings.Split(report, "\n")[5], e, "roots alarm-0 alarm-1", api.OK)
	two.Plan.Least = 1000
	report, e = station.Report(two, logOf("cat rest q", "cat rest p"))
	expect(t, "Report of two cells at rest", strings.Split(report, "\n")[4], e, "rest p q", api.OK)
}

// TestAnswers is what stands behind the words of reports.
func TestAnswers(t *testing.T) {
	r := rand.New(rand.NewSource(111))
	for range 60 {
		h := randomHouse(r)
		log := randomLog(r, h)
		report, e := station.Report(h, log)
		expect(t, fmt.Sprint("Report ", toldBy(log)), report, e, slowReport(h, must(station.StateOf(h, log))), api.OK)
		lines := strings.Split(strings.TrimSuffix(report, "\n"), "\n")
		for _, line := range lines {
			word, want, _ := strings.Cut(line, " ")
			if word == "count" {
				name, total, _ := strings.Cut(want, " ")
				word, want = "count "+name, total
			}
			answer, e := station.Ask(h, log, word)
			expect(t, fmt.Sprint("Ask ", toldBy(log), word), answer, e, want, api.OK)
		}
	}
}
