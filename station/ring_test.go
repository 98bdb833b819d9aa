package station_test

import (
	"fmt"
	"math/rand"
	"slices"
	"strings"
	"testing"

	"downtilt/api"
	"downtilt/station"
)

// TestRingExamples is the example 6 of the chapter.
func TestRingExamples(t *testing.T) {
	sum, e := station.SumOf(0, entryOf("a x"))
	expect(t, "SumOf", sum, e, 23455997, api.OK)
	log := logOf("a x", "bo y z", "c w")
	ring, e := station.Ring(log, 2)
	expect(t, "Ring", ring, e, []string{slowRecord(2, log[2]), slowRecord(1, log[1])}, api.OK)
	ring, e = station.Ring(log[:1], 3)
	expect(t, "Ring", ring, e, []string{"0 23455997 a x", "", ""}, api.OK)
	ring, e = station.Ring(nil, 1)
	expect(t, "Ring of no entries", ring, e, []string{""}, api.OK)
	left, e := station.Left([]string{"0 23455997 a x", "", ""})
	expect(t, "Left", left, e, api.StationLeft{Entries: logOf("a x")}, api.OK)
}

// randomAlone is an entry alone, often no right one of any log.
func randomAlone(r *rand.Rand) api.StationEntry {
	x := api.StationEntry{By: oneOf(r, "a", "Zz-9", "abcdefghijkl"), Text: oneOf(r, "x", " ", "  x  ", "day 1", "\x00\xff", "é\r\t", strings.Repeat("\xff", 400))}
	for range r.Intn(20) {
		x.Text += oneOf(r, " ", "x", "9")
	}
	x.Text = x.Text[:min(len(x.Text), 400)]
	return x
}

func TestSums(t *testing.T) {
	r := rand.New(rand.NewSource(107))
	for range 200 {
		number, x := upTo(r, 59), randomAlone(r)
		sum, e := station.SumOf(number, x)
		text := fmt.Sprint(number, " ", sum, " ", x.By, " ", x.Text)
		expect(t, fmt.Sprint("SumOf ", number, x), text, e, slowRecord(number, x), api.OK)
	}
}

// slowRing is the texts of a ring.
func slowRing(log []api.StationEntry, size int) []string {
	var ring []string
	for i := range size {
		text := ""
		for number, x := range log {
			if number%size == i {
				text = slowRecord(number, x)
			}
		}
		ring = append(ring, text)
	}
	return ring
}

// TestRings looks at what a ring keeps, and what is left if one text is lost (P10.14).
func TestRings(t *testing.T) {
	r := rand.New(rand.NewSource(108))
	for range 300 {
		var log []api.StationEntry
		for range 1 + upTo(r, 59) {
			log = append(log, randomAlone(r))
		}
		size := 1 + upTo(r, 19)
		ring, e := station.Ring(log, size)
		expect(t, fmt.Sprint("Ring of ", len(log)), ring, e, slowRing(log, size), api.OK)
		first := max(0, len(log)-size)
		left, e := station.Left(ring)
		expect(t, fmt.Sprint("Left of ", len(log), " and ", size), left, e, api.StationLeft{First: first, Entries: log[first:]}, api.OK)
		lost := first + r.Intn(len(log)-first)
		ring[lost%size] = ""
		want, f := api.StationLeft{First: lost + 1, Entries: log[lost+1:]}, api.OK
		if lost == len(log)-1 {
			want = api.StationLeft{First: first, Entries: log[first:lost]}
		}
		if len(want.Entries) == 0 {
			want, f = api.StationLeft{}, api.ErrNone
		}
		left, e = station.Left(ring)
		expect(t, fmt.Sprint("Left of ", len(log), " and ", size, " without ", lost), left, e, want, f)
	}
}

// TestWrongRecords is of texts that are not right, each one beside one that is.
func TestWrongRecords(t *testing.T) {
	x := entryOf("a x")
	long, alone := entryOf("a "+strings.Repeat("x", 401)), entryOf("a "+strings.Repeat("x", 400))
	right := slowRecord(1, entryOf("b y"))
	for i, text := range []string{
		"", "0", "0 ", " ", "   ", "0 23455997", "0 23455997 a", "0 23455997 a ", "0 23455997  x", "0 23455998 a x", "0 0 a x", "0 -1 a x", "0 x a x", "x 23455997 a x", " 23455997 a x",
		" 0 23455997 a x", "0  23455997 a x", "0 23455997 a  x", "0 23455997 a x ", "0 23455997 a y", "0 23455997 b x", "2 23455997 a x", "00 23455997 a x", "-0 23455997 a x", "+0 23455997 a x", "0 023455997 a x", "0 +23455997 a x",
		"0 1021700350 a x", // the sum and the prime
		slowRecord(1, x),   // it stands at another place
		slowRecord(60, x),  // it is beyond any log
		slowRecord(10000000, x),
		slowRecord(-2, x),
		slowRecord(0, entryOf("1 x")),
		slowRecord(0, api.StationEntry{Text: "x"}),
		slowRecord(0, entryOf("abcdefghijklm x")),
		slowRecord(0, entryOf("a ")),
		slowRecord(0, entryOf("a x\ny")),
		slowRecord(0, long),
	} {
		left, e := station.Left([]string{text, right})
		expect(t, fmt.Sprint("Left, text ", i, " ", text), left, e, api.StationLeft{First: 1, Entries: logOf("b y")}, api.OK)
		left, e = station.Left([]string{text, ""})
		expect(t, fmt.Sprint("Left, text ", i, " ", text), left, e, api.StationLeft{}, api.ErrNone)
	}
	for i, x := range []struct {
		number int
		entry  api.StationEntry
	}{{0, alone}, {58, entryOf("a x")}, {0, entryOf("a  ")}, {2, entryOf("abcdefghijkl  no such  kind \t")}} {
		left, e := station.Left([]string{slowRecord(x.number, x.entry), ""})
		expect(t, fmt.Sprint("Left, right text ", i), left, e, api.StationLeft{First: x.number, Entries: []api.StationEntry{x.entry}}, api.OK)
	}
}

// TestLeft is of rings whose texts come from several logs.
func TestLeft(t *testing.T) {
	r := rand.New(rand.NewSource(109))
	seen := map[int]int{}
	for range 1000 {
		size := 1 + upTo(r, 19)
		ring := make([]string, size)
		turn := r.Intn(3)
		for i := range ring {
			number := i + size*max(0, turn-r.Intn(2))
			if r.Intn(10) > 0 {
				ring[i] = slowRecord(number, randomAlone(r))
			}
			if r.Intn(12) == 0 {
				ring[i] = spoilText(r, ring[i])
			}
		}
		want, f := slowLeft(ring), api.OK
		if len(want.Entries) == 0 {
			f = api.ErrNone
		}
		left, e := station.Left(ring)
		expect(t, fmt.Sprint("Left ", ring), left, e, want, f)
		seen[len(left.Entries)]++
	}
	for count := range 5 {
		if seen[count] < 20 {
			t.Errorf("%d entries are left %d times", count, seen[count])
		}
	}
}

// TestForgedRecords is of whole texts of which a byte is changed: it is not right any more.
func TestForgedRecords(t *testing.T) {
	log := logOf("ann admit v sure 1 1 20 1 100 20 4", "ben use 1")
	ring := must(station.Ring(log, 2))
	for i := range len(ring[1]) {
		for _, by := range []byte{' ', '0', 'x', '\n'} {
			forged := slices.Clone(ring)
			forged[1] = ring[1][:i] + string(by) + ring[1][i+1:]
			if forged[1] == ring[1] {
				continue
			}
			left, e := station.Left(forged)
			expect(t, "Left "+forged[1], left, e, api.StationLeft{Entries: log[:1]}, api.OK)
		}
	}
}
