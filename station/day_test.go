package station_test

import (
	"fmt"
	"math/rand"
	"slices"
	"strings"
	"testing"

	"downtilt/api"
	"downtilt/station"
)

func TestNext(t *testing.T) {
	for x, want := range map[int]int{1: 48271, 2: 96542, 20680: 998244280, 20681: 48198, 998244352: 998196082} {
		got, e := station.Next(x)
		expect(t, fmt.Sprint("Next ", x), got, e, want, api.OK)
	}
	x := 1
	for range 100000 { // it never comes to 0, nor to 1 again so soon
		x = must(station.Next(x))
		if x < 2 || x > 998244352 {
			t.Fatal(x)
		}
	}
}

// TestDayExamples is the example 7 of the chapter, and more.
func TestDayExamples(t *testing.T) {
	log, e := station.Day(exampleHouse(), 1, 1)
	expect(t, "Day", toldBy(log), e, []string{"cat walk prepare 5 1"}, api.OK) // 48271, and then 333600735, and one that is 2 modulo 5: data, ack, prepare, fail, pass
	log, e = station.Day(exampleHouse(), 1, 0)
	expect(t, "Day of no steps", log, e, []api.StationEntry(nil), api.OK)
	h := exampleHouse()
	h.People = peopleOf("ann", 0, "dan", 2, "ben", 1, "cat", 2)
	log, e = station.Day(h, 1, 1)
	expect(t, "Day of the first chief", toldBy(log), e, []string{"dan walk prepare 5 1"}, api.OK)
}

// TestDays compares with a slow version, and enters all entries (P10.13).
func TestDays(t *testing.T) {
	r := rand.New(rand.NewSource(110))
	seen := map[string]int{}
	for i := range 400 {
		h := randomHouse(r)
		if i%3 == 0 {
			h = exampleHouse()
		}
		seed, steps := 1+upTo(r, 998244351), upTo(r, 40)
		log, e := station.Day(h, seed, steps)
		var texts []string
		chief := h.People[slices.IndexFunc(h.People, func(x api.StationPerson) bool { return x.Role == api.StationChief })].Name
		for _, x := range log {
			texts = append(texts, x.Text)
			words := strings.Split(x.Text, " ")
			seen[words[0]]++
			if words[0] == "admit" {
				seen[words[2]]++
			}
			expect(t, "By", x.By, e, chief, api.OK)
		}
		expect(t, fmt.Sprint("Day ", h, seed, steps), texts, e, slowDay(h, seed, steps), api.OK)
		number, e := station.CheckLog(h, log)
		expect(t, fmt.Sprint("CheckLog ", toldBy(log)), number, e, 0, api.OK)
		seen["left out"] += steps - len(log)
		fewer := upTo(r, steps)
		short := must(station.Day(h, seed, fewer))
		if len(short) > min(fewer, len(log)) || !same(short, log[:len(short)]) {
			t.Errorf("Day %d %d: %v is not the beginning of %v", seed, fewer, short, log)
		}
	}
	for _, word := range []string{"admit", "best", "sure", "emergency", "end", "raise", "clear", "rest", "wake", "walk", "left out"} {
		if seen[word] < 20 {
			t.Errorf("%s: %d times", word, seen[word])
		}
	}
}

// TestBareDays is of a house in which there is little to draw from.
func TestBareDays(t *testing.T) {
	h := exampleHouse()
	h.Alarms = nil
	h.Net = api.MoveNetwork{Cells: []string{"x"}, Limit: 1}
	h.Sched.Table = []int{0}
	h.Plan.Cells = h.Plan.Cells[:1]
	for seed := 1; seed < 40; seed++ {
		checkDay(t, h, seed)
	}
}

// TestRestlessDays is of a house in which all cells but one may rest: that the last one is refused changes nothing.
func TestRestlessDays(t *testing.T) {
	h := exampleHouse()
	h.Plan.Cells = append(h.Plan.Cells, h.Plan.Cells[0], h.Plan.Cells[0])
	h.Plan.Cells[2].Name, h.Plan.Cells[3].Name = "r", "s"
	for seed := 1; seed < 500; seed++ {
		checkDay(t, h, seed)
	}
}

// checkDay compares a day of 40 steps with a slow one.
func checkDay(t *testing.T, h api.StationHouse, seed int) {
	t.Helper()
	log, e := station.Day(h, seed, 40)
	var texts []string
	for _, x := range log {
		texts = append(texts, x.Text)
	}
	expect(t, fmt.Sprint("Day ", seed), texts, e, slowDay(h, seed, 40), api.OK)
}
