package symbol_test

import (
	"math/rand"
	"testing"

	"downtilt/api"
	"downtilt/symbol"
)

func TestLayers(t *testing.T) {
	four := []api.Gauss{g(1, 0), g(2, 0), g(3, 0), g(4, 0)}
	layers, e := symbol.Layered(2, four)
	expect(t, "Layered", layers, e, [][]api.Gauss{{g(1, 0), g(3, 0)}, {g(2, 0), g(4, 0)}}, api.OK)
	l, e := symbol.Unlayered(layers)
	expect(t, "Unlayered", l, e, four, api.OK)
	layers, e = symbol.Layered(4, four)
	expect(t, "Layered in four", layers, e, [][]api.Gauss{{g(1, 0)}, {g(2, 0)}, {g(3, 0)}, {g(4, 0)}}, api.OK)
	layers, e = symbol.Layered(1, four)
	expect(t, "Layered in one", layers, e, [][]api.Gauss{four}, api.OK)
	layers, e = symbol.Layered(1, []api.Gauss{g(100000000, -100000000)})
	expect(t, "Layered at the ends", layers, e, [][]api.Gauss{{g(100000000, -100000000)}}, api.OK)
	l, e = symbol.Unlayered(layers)
	expect(t, "Unlayered at the ends", l, e, []api.Gauss{g(100000000, -100000000)}, api.OK)
}

// TestLayersThereAndBack compares layers with their definition, and is P3.9.
func TestLayersThereAndBack(t *testing.T) {
	r := rand.New(rand.NewSource(6))
	for count := 1; count <= 4; count++ {
		for _, length := range []int{1, 2, 3, 50, 200} {
			symbols := randomSymbols(r, count*length, 100000000)
			layers, e := symbol.Layered(count, symbols)
			expect(t, "Layered", []int{len(layers), len(layers[0])}, e, []int{count, length}, api.OK)
			for i, s := range symbols {
				if layers[i%count][i/count] != s {
					t.Errorf("the symbol %d of %d layers: %v", i, count, layers)
				}
			}
			back, e := symbol.Unlayered(layers)
			expect(t, "Unlayered", back, e, symbols, api.OK)
		}
	}
}
