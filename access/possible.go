package access

import (
	"iter"
	"slices"

	"downtilt/api"
)

// Possible returns all events at a tick that are accepted, but for the one that time passes.
func Possible(r api.AccessRules, s api.AccessState, at int) ([]api.AccessEvent, api.Errno) {
	e := firstError(
		CheckState(r, s),
		tickError(at),
		unless(at >= s.At, api.ErrOrder))
	if e != api.OK {
		return nil, e
	}
	k := site{r, s}
	var possible []api.AccessEvent
	for x := range k.candidates(at) {
		if _, e := k.behind(x); e == api.OK {
			possible = append(possible, x)
		}
	}
	return possible, api.OK
}

// candidates ranges over events at a tick, ascending; all possible ones are among them.
func (k site) candidates(at int) iter.Seq[api.AccessEvent] {
	return func(yield func(api.AccessEvent) bool) {
		for kind := range api.AccessPass { // the last kind, which is left out
			choices := k.choicesOf(kind)
			for _, phone := range choices[usesPhone] {
				for _, preamble := range choices[usesPreamble] {
					for _, sent := range choices[usesSent] {
						for _, identity := range choices[usesIdentity] {
							x := api.AccessEvent{Kind: kind, At: at, Phone: phone, Preamble: preamble, Sent: sent, Identity: identity}
							if !yield(x) {
								return
							}
						}
					}
				}
			}
		}
	}
}

// choicesOf is what events of a kind may have, ascending: 0 alone where it uses nothing.
func (k site) choicesOf(kind int) [allUses][]int {
	choices := [allUses][]int{{0}, {0}, {0}, {0}}
	all := [allUses][]int{
		usesPhone:    upTo(len(k.Phones)),
		usesPreamble: upTo(k.Preambles),
		usesSent:     k.sents(),
		usesIdentity: upTo(k.Identities),
	}
	for _, u := range eventKinds()[kind].uses {
		choices[u] = all[u]
	}
	return choices
}

// sents is when the preambles of waiting phones were sent.
func (k site) sents() []int {
	var sents []int
	for _, p := range k.Phones {
		if p.Stage == api.AccessWaiting {
			sents = append(sents, p.Sent)
		}
	}
	slices.Sort(sents)
	return slices.Compact(sents)
}

// upTo is the numbers of so many things.
func upTo(count int) []int {
	var numbers []int
	for n := range count {
		numbers = append(numbers, n)
	}
	return numbers
}
