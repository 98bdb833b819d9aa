package plan

import (
	"strconv"
	"strings"

	"downtilt/api"
)

// maxTextNumber has as many digits as a number of a text may have.
const maxTextNumber = 999999999

// FormatCell returns the text of a cell.
func FormatCell(c api.PlanCell) string {
	words := []string{c.Name}
	for _, number := range numbersOf(&c) {
		words = append(words, strconv.Itoa(*number))
	}
	return strings.Join(words, " ")
}

// ParseCell returns the cell with a text.
func ParseCell(s string) (api.PlanCell, api.Errno) {
	c, ok := readCell(s)
	if !ok {
		return api.PlanCell{}, api.ErrSyntax
	}
	e := firstError(
		itselfError(c),
		rangeError(c.At[0], 0, api.MaxPlanSide-1),
		rangeError(c.At[1], 0, api.MaxPlanSide-1),
		numbersError(c))
	if e != api.OK {
		return api.PlanCell{}, e
	}
	return c, api.OK
}

// readCell returns the cell with a text that is written right, whatever the cell is.
func readCell(s string) (api.PlanCell, bool) {
	var c api.PlanCell
	numbers := numbersOf(&c)
	words := strings.SplitN(s, " ", 1+len(numbers)) // more words stay in the last one, which is no number then
	if len(words) != 1+len(numbers) || words[0] == "" {
		return c, false
	}
	c.Name = strings.Clone(words[0])
	for i, word := range words[1:] {
		n, ok := parseNumber(word)
		if !ok {
			return c, false
		}
		*numbers[i] = n
	}
	return c, true
}

// numbersOf is where a cell has the numbers of its text, in their order.
func numbersOf(c *api.PlanCell) []*int {
	return []*int{&c.Identity, &c.At[0], &c.At[1], &c.Mast, &c.Power, &c.Tilt}
}

// parseNumber takes only what a number is written as: Atoi would take "+1", "01" and "-0" too.
func parseNumber(s string) (int, bool) {
	n, err := strconv.Atoi(s)
	return n, err == nil && strconv.Itoa(n) == s && isWithin(n, -maxTextNumber, maxTextNumber)
}
