package sched

import (
	"strconv"
	"strings"

	"downtilt/api"
)

const (
	// maxTextNumber has as many digits as a number of a text may have.
	maxTextNumber = 999999999
	// wordsAhead is how many words stand ahead of the numbers.
	wordsAhead = 2
)

// kindWords is the words of the kinds of bearers.
var kindWords = [api.SchedKinds]string{"best", "sure", "emergency"}

// FormatBearer returns the text of a bearer.
func FormatBearer(x api.SchedBearer) string {
	if !isWithin(x.Kind, 0, api.SchedKinds-1) {
		return ""
	}
	words := []string{x.Name, kindWords[x.Kind]}
	for _, number := range numbersOf(&x) {
		words = append(words, strconv.Itoa(*number))
	}
	return strings.Join(words, " ")
}

// ParseBearer returns the bearer with a text.
func ParseBearer(t string) (api.SchedBearer, api.Errno) {
	var x api.SchedBearer
	numbers := numbersOf(&x)
	words := strings.SplitN(t, " ", wordsAhead+len(numbers)) // more words stay in the last one, which is no number then
	if len(words) != wordsAhead+len(numbers) || words[0] == "" {
		return api.SchedBearer{}, api.ErrSyntax
	}
	kind := kindOf(words[1])
	if kind == none {
		return api.SchedBearer{}, api.ErrSyntax
	}
	for i, word := range words[wordsAhead:] {
		n, ok := parseNumber(word)
		if !ok {
			return api.SchedBearer{}, api.ErrSyntax
		}
		*numbers[i] = n
	}
	if !isName(words[0]) {
		return api.SchedBearer{}, api.ErrName
	}
	x.Name, x.Kind = strings.Clone(words[0]), kind
	return x, api.OK
}

// numbersOf is the numbers of a bearer in the order of its text.
func numbersOf(x *api.SchedBearer) []*int {
	return []*int{&x.Priority, &x.Weight, &x.Power, &x.Least, &x.Burst, &x.Rate, &x.Delay}
}

func kindOf(word string) int {
	for kind, w := range kindWords {
		if w == word {
			return kind
		}
	}
	return none
}

// parseNumber takes only what a number is written as: Atoi would take "+1", "01" and "-0" too.
func parseNumber(s string) (int, bool) {
	n, err := strconv.Atoi(s)
	return n, err == nil && strconv.Itoa(n) == s && isWithin(n, -maxTextNumber, maxTextNumber)
}

func isName(s string) bool {
	if len(s) < 1 || len(s) > api.MaxName || !isLetter(s[0]) {
		return false
	}
	for i := range len(s) {
		if !isLetter(s[i]) && !isDigit(s[i]) && s[i] != '-' {
			return false
		}
	}
	return true
}

func isLetter(c byte) bool {
	return 'a' <= c && c <= 'z' || 'A' <= c && c <= 'Z'
}

func isDigit(c byte) bool {
	return '0' <= c && c <= '9'
}
