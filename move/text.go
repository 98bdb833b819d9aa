package move

import (
	"strconv"
	"strings"

	"downtilt/api"
)

// maxTextNumber has as many digits as a number of a text may have.
const maxTextNumber = 9999999999

// FormatEvent returns the text of an event.
func FormatEvent(e api.MoveEvent) string {
	if !isWithin(e.Kind, 0, api.MoveKinds-1) {
		return ""
	}
	k := eventKinds()[e.Kind]
	return k.word + " " + format(taken(k.places(&e)))
}

// ParseEvent returns the event with a text.
func ParseEvent(t string) (api.MoveEvent, api.Errno) {
	word, left, _ := strings.Cut(t, " ")
	numbers, ok := parse(left)
	for kind, k := range eventKinds() {
		e := api.MoveEvent{Kind: kind}
		if word == k.word && ok && put(numbers, k.places(&e)) {
			return e, api.OK
		}
	}
	return api.MoveEvent{}, api.ErrSyntax
}

// FormatState returns the text of a state.
func FormatState(x api.MoveState) string {
	pieces := []string{format(taken(placesOf(&x)))}
	for _, buffer := range x.Buffers {
		pieces = append(pieces, format(buffer))
	}
	return strings.Join(pieces, "|")
}

// ParseState returns the state with a text.
func ParseState(t string) (api.MoveState, api.Errno) {
	var x api.MoveState
	pieces := strings.Split(t, "|")
	numbers, ok := parse(pieces[0])
	if !ok || !put(numbers, placesOf(&x)) || len(pieces) == 1 {
		return api.MoveState{}, api.ErrSyntax
	}
	for _, piece := range pieces[1:] {
		buffer, ok := parse(piece)
		if !ok && piece != "" {
			return api.MoveState{}, api.ErrSyntax
		}
		x.Buffers = append(x.Buffers, buffer)
	}
	return x, api.OK
}

// places is where an event has the numbers of its text, in their order.
func (k eventKind) places(e *api.MoveEvent) []*int {
	if k.namesCell {
		return []*int{&e.At, &e.Cell}
	}
	return []*int{&e.At}
}

// placesOf is where a state has the numbers ahead of its packets, in the order of its text.
func placesOf(x *api.MoveState) []*int {
	return []*int{&x.At, &x.Phase, &x.Since, &x.Serving, &x.Target, &x.Source, &x.Path, &x.Fresh, &x.Got}
}

// taken is the numbers at places.
func taken(places []*int) []int {
	var numbers []int
	for _, place := range places {
		numbers = append(numbers, *place)
	}
	return numbers
}

// put puts numbers at places if they are just as many.
func put(numbers []int, places []*int) bool {
	if len(numbers) != len(places) {
		return false
	}
	for i, number := range numbers {
		*places[i] = number
	}
	return true
}

// format writes numbers with single blanks between.
func format(numbers []int) string {
	var words []string
	for _, number := range numbers {
		words = append(words, strconv.Itoa(number))
	}
	return strings.Join(words, " ")
}

// parse reads numbers with single blanks between, one at least.
func parse(s string) ([]int, bool) {
	var numbers []int
	for word := range strings.SplitSeq(s, " ") {
		number, ok := parseNumber(word)
		if !ok {
			return nil, false
		}
		numbers = append(numbers, number)
	}
	return numbers, true
}

// parseNumber takes only what a number is written as: Atoi would take "+1", "01" and "-0" too.
func parseNumber(s string) (int, bool) {
	n, err := strconv.Atoi(s)
	return n, err == nil && strconv.Itoa(n) == s && isWithin(n, -maxTextNumber, maxTextNumber)
}
