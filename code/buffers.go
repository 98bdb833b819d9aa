package code

import (
	"slices"

	"downtilt/api"
)

// Begin returns so many empty buffers.
func Begin(length, count int) (api.CodeBuffers, api.Errno) {
	e := firstError(
		lengthError(length),
		unless(isWithin(count, 1, api.MaxCodeProcess), api.ErrRange))
	if e != api.OK {
		return api.CodeBuffers{}, e
	}
	b := api.CodeBuffers{Length: length}
	for range count {
		b.Processes = append(b.Processes, api.CodeProcess{Toggle: api.CodeNoToggle, Soft: make([]int, length)})
	}
	return b, api.OK
}

// Receive returns the buffers behind a reception.
func Receive(b api.CodeBuffers, x api.CodeReceived) (api.CodeBuffers, api.Errno) {
	if e := firstError(buffersError(b), receptionError(b, x)); e != api.OK {
		return api.CodeBuffers{}, e
	}
	p, e := processBehind(b.Processes[x.Process], x, b.Length)
	if e != api.OK {
		return api.CodeBuffers{}, e
	}
	behind := copyOf(b)
	behind.Processes[x.Process] = p
	return behind, api.OK
}

func buffersError(b api.CodeBuffers) api.Errno {
	switch {
	case lengthError(b.Length) != api.OK:
		return api.ErrRange
	case len(b.Processes) == 0:
		return api.ErrShape
	case len(b.Processes) > api.MaxCodeProcess:
		return api.ErrLarge
	}
	for _, p := range b.Processes {
		if e := processError(p, b.Length); e != api.OK {
			return e
		}
	}
	return api.OK
}

// processError is the first error of a buffer of that length.
func processError(p api.CodeProcess, length int) api.Errno {
	isEmpty := p.Count == 0
	switch {
	case !isWithin(p.Toggle, api.CodeNoToggle, 1):
		return api.ErrRange
	case !isWithin(p.Count, 0, api.MaxCodeSum):
		return api.ErrRange
	case (p.Toggle == api.CodeNoToggle) != isEmpty:
		return api.ErrState
	case len(p.Soft) != length:
		return api.ErrShape
	case !areWithin(p.Soft, api.MaxCodeSum):
		return api.ErrRange
	case isEmpty && !areWithin(p.Soft, 0):
		return api.ErrState
	}
	return api.OK
}

func receptionError(b api.CodeBuffers, x api.CodeReceived) api.Errno {
	return firstError(
		unless(isWithin(x.Process, 0, len(b.Processes)-1), api.ErrMissing),
		unless(isWithin(x.Toggle, 0, 1), api.ErrKind),
		versionError(x.Version),
		softError(x.Soft))
}

// processBehind is a buffer behind a reception. Only a block with the buffer's own toggle is added to what is there.
func processBehind(p api.CodeProcess, x api.CodeReceived, length int) (api.CodeProcess, api.Errno) {
	sums := gathered(x.Soft, x.Version, length)
	if x.Toggle != p.Toggle {
		return api.CodeProcess{Toggle: x.Toggle, Count: 1, Soft: sums}, api.OK
	}
	sums, e := Combined(p.Soft, sums)
	if e = firstError(e, unless(p.Count < api.MaxCodeSum, api.ErrLarge)); e != api.OK {
		return api.CodeProcess{}, e
	}
	return api.CodeProcess{Toggle: p.Toggle, Count: p.Count + 1, Soft: sums}, api.OK
}

// copyOf shares no memory with b.
func copyOf(b api.CodeBuffers) api.CodeBuffers {
	b.Processes = slices.Clone(b.Processes)
	for i := range b.Processes {
		b.Processes[i].Soft = slices.Clone(b.Processes[i].Soft)
	}
	return b
}
