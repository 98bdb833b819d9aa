package access

import (
	"strconv"
	"strings"

	"downtilt/api"
)

// maxTextNumber has as many digits as a number of a text may have.
const maxTextNumber = 9999999999

// FormatEvent returns the text of an event.
func FormatEvent(e api.AccessEvent) string {
	if !isWithin(e.Kind, 0, api.AccessKinds-1) {
		return ""
	}
	kind := eventKinds()[e.Kind]
	return kind.word + " " + join(numbersOfEvent(kind, &e), " ")
}

// ParseEvent returns the event with a text.
func ParseEvent(s string) (api.AccessEvent, api.Errno) {
	word, numbers, _ := strings.Cut(s, " ")
	for k, kind := range eventKinds() {
		e := api.AccessEvent{Kind: k}
		if word == kind.word && parse(numbers, " ", numbersOfEvent(kind, &e), 0) {
			return e, api.OK
		}
	}
	return api.AccessEvent{}, api.ErrSyntax
}

// FormatState returns the text of a state.
func FormatState(s api.AccessState) string {
	words := []string{strconv.Itoa(s.At)}
	for _, p := range s.Phones {
		words = append(words, join(numbersOfPhone(&p), ","))
	}
	return strings.Join(words, " ")
}

// ParseState returns the state with a text.
func ParseState(s string) (api.AccessState, api.Errno) {
	var state api.AccessState
	word, left, isMore := strings.Cut(s, " ")
	if !parse(word, " ", []*int{&state.At}, -maxTextNumber) {
		return api.AccessState{}, api.ErrSyntax
	}
	for isMore {
		var p api.AccessPhone
		word, left, isMore = strings.Cut(left, " ")
		if !parse(word, ",", numbersOfPhone(&p), -maxTextNumber) {
			return api.AccessState{}, api.ErrSyntax
		}
		state.Phones = append(state.Phones, p)
	}
	return state, api.OK
}

// numbersOfEvent is the numbers of an event of a kind in the order of its text.
func numbersOfEvent(kind eventKind, e *api.AccessEvent) []*int {
	numbers := []*int{&e.At}
	for _, u := range kind.uses {
		numbers = append(numbers, usedBy(e)[u])
	}
	return numbers
}

// numbersOfPhone is the numbers of a phone in the order of its text.
func numbersOfPhone(p *api.AccessPhone) []*int {
	return []*int{&p.Stage, &p.Preamble, &p.Sent, &p.Identity, &p.Until, &p.Tries, &p.Draw}
}

func join(numbers []*int, between string) string {
	var words []string
	for _, n := range numbers {
		words = append(words, strconv.Itoa(*n))
	}
	return strings.Join(words, between)
}

// parse reads numbers, of which none may be less than the least one, and tells whether there are just so many.
func parse(s, between string, numbers []*int, least int) bool {
	words := strings.SplitN(s, between, len(numbers)) // more words stay in the last one, which is no number then
	if len(words) != len(numbers) {
		return false
	}
	for i, word := range words {
		n, ok := parseNumber(word)
		if !ok || n < least {
			return false
		}
		*numbers[i] = n
	}
	return true
}

// parseNumber takes only what a number is written as: Atoi would take "+1", "01" and "-0" too.
func parseNumber(s string) (int, bool) {
	n, err := strconv.Atoi(s)
	return n, err == nil && strconv.Itoa(n) == s && isWithin(n, -maxTextNumber, maxTextNumber)
}
