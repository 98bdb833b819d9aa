package symbol

import (
	"strconv"
	"strings"

	"downtilt/api"
)

// maxNumber has as many digits as a number of a text may have.
const maxNumber = 999999999

// FormatSymbols returns the text of symbols.
func FormatSymbols(l []api.Gauss) string {
	words := make([]string, len(l))
	for i, g := range l {
		words[i] = strconv.Itoa(g.Re) + "," + strconv.Itoa(g.Im)
	}
	return strings.Join(words, " ")
}

// ParseSymbols returns the symbols with a text.
func ParseSymbols(s string) ([]api.Gauss, api.Errno) {
	var l []api.Gauss
	for word := range strings.SplitSeq(s, " ") {
		g, ok := parseSymbol(word)
		if !ok {
			return nil, api.ErrSyntax
		}
		if len(l) <= api.MaxSymbolCount { // one too many is kept, and tells that there are too many
			l = append(l, g)
		}
	}
	if e := symbolsError(l); e != api.OK {
		return nil, e
	}
	return l, api.OK
}

func parseSymbol(word string) (api.Gauss, bool) {
	first, second, _ := strings.Cut(word, ",")
	re, isFirst := parseNumber(first)
	im, isSecond := parseNumber(second)
	return api.Gauss{Re: re, Im: im}, isFirst && isSecond
}

// parseNumber takes only what a number is written as: Atoi would take "+1", "01" and "-0" too.
func parseNumber(s string) (int, bool) {
	n, err := strconv.Atoi(s)
	return n, err == nil && strconv.Itoa(n) == s && isWithin(n, -maxNumber, maxNumber)
}
