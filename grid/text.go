package grid

import (
	"strconv"
	"strings"

	"downtilt/api"
)

// kindWords is the words of the kinds, in their order.
var kindWords = [api.GridKinds]string{"sync", "broadcast", "control", "reference", "guard", "data"}

// The first words of lines, and a Slot that is GridEach.
const (
	carrierWord = "carrier"
	partWord    = "part"
	signalWord  = "signal"
	eachWord    = "-"
)

// maxDigits is how many digits a number of a text has at most.
const maxDigits = 5

// Print returns the text of a carrier.
func Print(c api.GridCarrier) (string, api.Errno) {
	if _, e := CheckCarrier(c); e != api.OK {
		return "", e
	}
	text := lineOf(carrierWord+" "+c.Name, carrierFields(&c))
	for _, p := range c.Parts {
		text += lineOf(partWord, partFields(&p))
	}
	for _, s := range c.Signals {
		text += lineOf(signalWord+" "+kindWords[s.Kind], signalFields(&s))
	}
	return text, api.OK
}

// lineOf is a line of words and fields.
func lineOf(words string, fields []field) string {
	for _, f := range fields {
		if *f.number == api.GridEach { // of a right carrier only a Slot is below 0
			words += " " + eachWord
		} else {
			words += " " + strconv.Itoa(*f.number)
		}
	}
	return words + "\n"
}

// FormatCarrier returns a carrier in one line.
func FormatCarrier(c api.GridCarrier) string {
	text, e := Print(c)
	if e != api.OK {
		return ""
	}
	return strings.ReplaceAll(strings.TrimSuffix(text, "\n"), "\n", ";")
}

// ParseCarrier returns the carrier that stands in one line.
func ParseCarrier(s string) (api.GridCarrier, api.Errno) {
	if strings.Contains(s, "\n") {
		return api.GridCarrier{}, api.ErrSyntax
	}
	c, _, e := Parse(strings.ReplaceAll(s, ";", "\n"))
	return c, e
}

// Parse returns the carrier with a text, or the first error and where it is.
func Parse(s string) (api.GridCarrier, api.TextMark, api.Errno) {
	if len(s) > api.MaxText {
		return api.GridCarrier{}, api.TextMark{}, api.ErrLarge
	}
	var r reading
	behind := 1
	for number, text := range linesOf(s) {
		if column, e := r.line(number, text); e != api.OK {
			return api.GridCarrier{}, api.TextMark{Line: number, Column: column}, e
		}
		behind = number + 1
	}
	if r.head == 0 {
		return api.GridCarrier{}, api.TextMark{Line: behind, Column: 1}, api.ErrMissing
	}
	if m, e := CheckCarrier(r.GridCarrier); e != api.OK {
		return api.GridCarrier{}, api.TextMark{Line: r.lineOf(m), Column: 1}, e
	}
	return r.GridCarrier, api.TextMark{}, api.OK
}

// reading is a carrier that is read, and in which lines it, its parts and its signals stand (head is 0 until there is a carrier).
type reading struct {
	api.GridCarrier
	head           int
	parts, signals []int
}

func (r *reading) lineOf(m api.GridMark) int {
	switch m.List {
	case api.GridParts:
		return r.parts[m.Number]
	case api.GridSignals:
		return r.signals[m.Number]
	}
	return r.head
}

// line reads a line. Beside an error it returns its column.
func (r *reading) line(number int, text string) (int, api.Errno) {
	words := wordsOf(text)
	if len(words) == 0 {
		return 0, api.OK
	}
	last := words[len(words)-1]
	l := sentence{left: words[1:], end: last.column + len(last.text)}
	switch first := words[0]; {
	case r.head == 0 && first.text == carrierWord:
		r.carrier(number, &l)
	case r.head == 0 || first.text != partWord && first.text != signalWord:
		return first.column, api.ErrSyntax
	case first.text == signalWord:
		r.signal(number, &l)
	case len(r.Signals) > 0:
		return first.column, api.ErrOrder
	default:
		r.part(number, &l)
	}
	l.finish()
	return l.column, l.err
}

func (r *reading) carrier(number int, l *sentence) {
	r.head = number
	r.Name = strings.Clone(l.take(api.ErrName, isName))
	l.numbers(carrierFields(&r.GridCarrier))
}

func (r *reading) part(number int, l *sentence) {
	var p api.GridPart
	l.numbers(partFields(&p))
	r.Parts = append(r.Parts, p)
	r.parts = append(r.parts, number)
}

func (r *reading) signal(number int, l *sentence) {
	var s api.GridSignal
	s.Kind = kindOf(l.take(api.ErrKind, isKind))
	for _, f := range signalFields(&s) {
		if f.number == &s.Slot {
			s.Slot = l.slot()
		} else {
			*f.number = l.number()
		}
	}
	r.Signals = append(r.Signals, s)
	r.signals = append(r.signals, number)
}
