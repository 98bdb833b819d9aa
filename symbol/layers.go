package symbol

import "downtilt/api"

// layersError is the first error of layers.
func layersError(layers [][]api.Gauss) api.Errno {
	switch {
	case len(layers) == 0:
		return api.ErrShape
	case len(layers) > api.MaxSymbolLayers:
		return api.ErrLarge
	}
	for _, l := range layers {
		if e := symbolsError(l); e != api.OK {
			return e
		}
		if len(l) != len(layers[0]) {
			return api.ErrClash
		}
	}
	return api.OK
}

// Layered returns the symbols of all layers.
func Layered(count int, l []api.Gauss) ([][]api.Gauss, api.Errno) {
	switch {
	case !isWithin(count, 1, api.MaxSymbolLayers):
		return nil, api.ErrRange
	case len(l) == 0 || len(l)%count != 0:
		return nil, api.ErrShape
	case len(l)/count > api.MaxSymbolCount:
		return nil, api.ErrLarge
	case !areWithin(l, api.MaxSymbolPart):
		return nil, api.ErrRange
	}
	layers := make([][]api.Gauss, count)
	for i, s := range l {
		layers[i%count] = append(layers[i%count], s)
	}
	return layers, api.OK
}

// Unlayered returns the symbols of layers in their order.
func Unlayered(l [][]api.Gauss) ([]api.Gauss, api.Errno) {
	if e := layersError(l); e != api.OK {
		return nil, e
	}
	symbols := make([]api.Gauss, len(l)*len(l[0]))
	for i := range symbols {
		symbols[i] = l[i%len(l)][i/len(l)]
	}
	return symbols, api.OK
}
