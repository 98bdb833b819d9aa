package station

import (
	"slices"
	"strconv"
	"strings"

	"downtilt/api"
)

const (
	// sumFactor is by what a sum grows with each byte.
	sumFactor = 257
	// recordParts is the number, the sum, the person and the text of a record.
	recordParts = 4
)

// record is an entry with its number. A number of none stands for no record.
type record struct {
	number int
	api.StationEntry
}

// SumOf returns the sum of a record.
func SumOf(number int, x api.StationEntry) (int, api.Errno) {
	e := firstError(
		rangeError(number, 0, api.MaxStationLog-1),
		aloneError(x))
	if e != api.OK {
		return 0, e
	}
	return record{number, x}.sum(), api.OK
}

// Ring returns the ring of a log.
func Ring(log []api.StationEntry, size int) ([]string, api.Errno) {
	e := logError(log)
	if e != api.OK {
		return nil, e
	}
	for _, x := range log {
		e = firstError(e, aloneError(x))
	}
	e = firstError(e, rangeError(size, 1, api.MaxStationRing))
	if e != api.OK {
		return nil, e
	}
	ring := make([]string, size)
	for number, x := range log {
		ring[number%size] = record{number, x}.text()
	}
	return ring, api.OK
}

// Left returns what is left of a ring.
func Left(ring []string) (api.StationLeft, api.Errno) {
	e := countError(len(ring), api.MaxStationRing)
	if e != api.OK {
		return api.StationLeft{}, e
	}
	var records []record
	last := none
	for i, text := range ring {
		x := recordAt(i, len(ring), text)
		records = append(records, x)
		last = max(last, x.number)
	}
	if last == none {
		return api.StationLeft{}, api.ErrNone
	}
	var left api.StationLeft
	for number := last; number >= 0; number-- {
		x := records[number%len(ring)]
		if x.number != number {
			break
		}
		left.First = number
		left.Entries = append(left.Entries, x.StationEntry)
	}
	slices.Reverse(left.Entries)
	return left, api.OK
}

// recordAt is the record whose text stands at a place of a ring of that size, if the text is right.
func recordAt(place, size int, text string) record {
	wrong := record{number: none}
	words := strings.SplitN(text, " ", recordParts)
	if len(words) != recordParts {
		return wrong
	}
	number, ok := parseNumber(words[0])
	if !ok || number >= api.MaxStationLog || number%size != place {
		return wrong
	}
	x := record{number, api.StationEntry{By: strings.Clone(words[2]), Text: strings.Clone(words[3])}}
	if aloneError(x.StationEntry) != api.OK || x.text() != text {
		return wrong
	}
	return x
}

func (x record) sum() int {
	sum := x.number + 1
	for _, c := range []byte(x.By + " " + x.Text) {
		sum = (sumFactor*sum + int(c) + 1) % api.GeneratorPrime
	}
	return sum
}

func (x record) text() string {
	return strings.Join([]string{strconv.Itoa(x.number), strconv.Itoa(x.sum()), x.By, x.Text}, " ")
}
