package beam

import (
	"strconv"
	"strings"

	"downtilt/api"
)

const (
	offWord  = "-"
	noneWord = "?" // of a phase that is none
)

// FormatBeam returns the text of a beam.
func FormatBeam(b api.BeamBeam) string {
	words := make([]string, len(b.Phases))
	for i, phase := range b.Phases {
		words[i] = wordOf(phase)
	}
	return strings.Join(words, " ")
}

func wordOf(phase int) string {
	switch {
	case phase == off:
		return offWord
	case !isWithin(phase, 0, turn-1):
		return noneWord
	}
	return strconv.Itoa(phase)
}

// ParseBeam returns the beam with a text.
func ParseBeam(s string) (api.BeamBeam, api.Errno) {
	var b api.BeamBeam
	for word := range strings.SplitSeq(s, " ") {
		phase, ok := phaseOf(word)
		if !ok {
			return api.BeamBeam{}, api.ErrSyntax
		}
		if len(b.Phases) <= api.BeamAntennas { // one too many is kept, and tells that there are too many
			b.Phases = append(b.Phases, phase)
		}
	}
	if e := beamError(b); e != api.OK {
		return api.BeamBeam{}, e
	}
	return b, api.OK
}

// phaseOf looks for a phase with this word.
func phaseOf(word string) (int, bool) {
	for phase := off; phase < turn; phase++ {
		if wordOf(phase) == word {
			return phase, true
		}
	}
	return 0, false
}
