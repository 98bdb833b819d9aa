package station

import (
	"slices"
	"strings"

	"downtilt/api"
)

// entryKind is a kind of entries: its word, which words stand behind it, to whom it is allowed, and what it does.
type entryKind struct {
	word string
	wording
	role int
	do   func(*book, request) error
}

// wording is how many words are names, and how many words behind these are numbers. Of a kind with a text all words are this text.
type wording struct {
	names, numbers int
	hasText        bool
}

// request is what stands behind the word of a kind: a name or a text, and numbers.
type request struct {
	text    string
	numbers []int
}

func entryKinds() []entryKind {
	nothing, text := wording{}, wording{hasText: true}
	name, nameAndNumber := wording{names: 1}, wording{names: 1, numbers: 1}
	one, two, three := wording{numbers: 1}, wording{numbers: 2}, wording{numbers: 3}
	return []entryKind{
		{"day", one, api.StationWatch, (*book).day},
		{"config", text, api.StationEngineer, (*book).config},
		{"use", one, api.StationEngineer, (*book).use},
		{"back", nothing, api.StationWatch, (*book).back},
		{"admit", text, api.StationWatch, (*book).admit},
		{"end", name, api.StationWatch, (*book).end},
		{"rest", name, api.StationEngineer, (*book).rest},
		{"wake", name, api.StationWatch, (*book).wake},
		{"raise", name, api.StationWatch, (*book).raise},
		{"clear", name, api.StationWatch, (*book).clear},
		{"load", three, api.StationEngineer, (*book).load},
		{"piece", two, api.StationEngineer, (*book).piece},
		{"try", one, api.StationChief, (*book).try},
		{"confirm", nothing, api.StationEngineer, (*book).confirm},
		{"reject", nothing, api.StationWatch, (*book).reject},
		{"count", nameAndNumber, api.StationWatch, (*book).count},
		{"walk", text, api.StationWatch, (*book).walk},
	}
}

// parse reads the text of an entry.
func parse(text string) (entryKind, request, error) {
	words := strings.Split(text, " ")
	kinds := entryKinds()
	i := slices.IndexFunc(kinds, func(k entryKind) bool { return k.word == words[0] })
	if i == none || slices.Contains(words, "") {
		return entryKind{}, request{}, refusal(api.ErrSyntax)
	}
	r, ok := kinds[i].read(words[1:])
	if !ok {
		return entryKind{}, request{}, refusal(api.ErrSyntax)
	}
	return kinds[i], r, nil
}

// read reads the words behind that of a kind.
func (w wording) read(words []string) (request, bool) {
	names := w.names
	if w.hasText {
		names = max(1, len(words))
	}
	if len(words) != names+w.numbers {
		return request{}, false
	}
	r := request{text: strings.Join(words[:names], " ")}
	for _, word := range words[names:] {
		n, ok := parseNumber(word)
		if !ok {
			return request{}, false
		}
		r.numbers = append(r.numbers, n)
	}
	return r, true
}
