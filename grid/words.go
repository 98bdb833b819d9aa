package grid

import (
	"iter"
	"strconv"
	"strings"

	"downtilt/api"
)

// word is a word of a line, and the column of its first byte.
type word struct {
	column int
	text   string
}

// linesOf ranges over the lines of a text, with their numbers.
func linesOf(s string) iter.Seq2[int, string] {
	return func(yield func(int, string) bool) {
		left := s
		for number := 1; left != ""; number++ {
			line, behind, _ := strings.Cut(left, "\n")
			if !yield(number, line) {
				return
			}
			left = behind
		}
	}
}

func wordsOf(line string) []word {
	var words []word
	for from := 0; from < len(line); {
		to := from
		for to < len(line) && line[to] != ' ' && line[to] != '\t' {
			to++
		}
		if to > from {
			words = append(words, word{from + 1, line[from:to]})
		}
		from = to + 1
	}
	return words
}

// sentence is a line whose words are taken one after the other. It keeps the first error and its column; behind an error no word is taken.
type sentence struct {
	left   []word
	end    int // the column behind the last word of the line
	column int
	err    api.Errno
}

func (l *sentence) fail(column int, e api.Errno) {
	l.column, l.err = column, e
}

// take takes the next word, or "" if there is none that is right.
func (l *sentence) take(wrong api.Errno, isRight func(string) bool) string {
	if l.err != api.OK {
		return ""
	}
	if len(l.left) == 0 {
		l.fail(l.end, api.ErrMissing)
		return ""
	}
	w := l.left[0]
	if !isRight(w.text) {
		l.fail(w.column, wrong)
		return ""
	}
	l.left = l.left[1:]
	return w.text
}

func (l *sentence) number() int {
	return numberOf(l.take(api.ErrSyntax, isNumber))
}

func (l *sentence) numbers(fields []field) {
	for _, f := range fields {
		*f.number = l.number()
	}
}

func (l *sentence) slot() int {
	text := l.take(api.ErrSyntax, isSlot)
	if text == eachWord {
		return api.GridEach
	}
	return numberOf(text)
}

// finish takes the end of the line.
func (l *sentence) finish() {
	if l.err == api.OK && len(l.left) > 0 {
		l.fail(l.left[0].column, api.ErrSyntax)
	}
}

func isNumber(s string) bool {
	if len(s) < 1 || len(s) > maxDigits || s[0] == '0' && len(s) > 1 {
		return false
	}
	for i := range len(s) {
		if !isDigit(s[i]) {
			return false
		}
	}
	return true
}

// numberOf is the number with a text that isNumber accepts, and 0 for the empty one.
func numberOf(s string) int {
	n, err := strconv.Atoi(s)
	if err != nil {
		return 0
	}
	return n
}

func isSlot(s string) bool {
	return s == eachWord || isNumber(s)
}

func isKind(s string) bool {
	return kindOf(s) != api.GridKinds
}

// kindOf is the kind of that word, or GridKinds.
func kindOf(s string) int {
	for kind, text := range kindWords {
		if text == s {
			return kind
		}
	}
	return api.GridKinds
}
