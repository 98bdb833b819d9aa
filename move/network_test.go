package move_test

import (
	"fmt"
	"math"
	"math/rand"
	"slices"
	"strings"
	"testing"

	"downtilt/api"
	"downtilt/move"
)

// allPairs is all pairs of so many cells.
func allPairs(cells int) [][2]int {
	var l [][2]int
	for a := range cells {
		for b := a + 1; b < cells; b++ {
			l = append(l, [2]int{a, b})
		}
	}
	return l
}

// TestNetworks looks at the number beside each error, too.
func TestNetworks(t *testing.T) {
	type names = []string
	type pairs = [][2]int
	abc := names{"a", "b", "c"}
	for _, x := range []struct {
		n      api.MoveNetwork
		number int
		e      api.Errno
	}{
		{exampleNetwork(), 0, api.OK},
		{api.MoveNetwork{Cells: names{"a"}, Limit: 1}, 0, api.OK},
		{api.MoveNetwork{Cells: names{"a", "A", "a-", "a1", "a--1", "abcdefghij-2"}, Neighbours: allPairs(6), Limit: 100000}, 0, api.OK},
		{api.MoveNetwork{Cells: abc, Neighbours: pairs{{1, 2}, {0, 2}, {0, 1}}, Limit: 7}, 0, api.OK}, // in any order
		{api.MoveNetwork{}, 0, api.ErrShape},
		{api.MoveNetwork{Neighbours: pairs{{0, 1}}, Limit: 1}, 0, api.ErrShape},
		{api.MoveNetwork{Cells: strings.Split("a b c d e f g", " "), Limit: 1}, 0, api.ErrLarge},
		{api.MoveNetwork{Cells: make(names, 7)}, 0, api.ErrLarge},
		{api.MoveNetwork{Cells: names{""}}, 0, api.ErrName},
		{api.MoveNetwork{Cells: names{"a", ""}}, 1, api.ErrName},
		{api.MoveNetwork{Cells: names{"a", "b", "c", "d", "e", "1"}}, 5, api.ErrName},
		{api.MoveNetwork{Cells: names{"a", "a", ""}}, 1, api.ErrExists},
		{api.MoveNetwork{Cells: names{"a", "", "a"}}, 1, api.ErrName},
		{api.MoveNetwork{Cells: names{"a", "b", "a", "b"}}, 2, api.ErrExists},
		{api.MoveNetwork{Cells: names{"", ""}}, 0, api.ErrName},
		{api.MoveNetwork{Cells: abc, Neighbours: pairs{{0, 3}}}, 0, api.ErrMissing},
		{api.MoveNetwork{Cells: abc, Neighbours: pairs{{0, 1}, {-1, 2}}}, 1, api.ErrMissing},
		{api.MoveNetwork{Cells: abc, Neighbours: pairs{{0, 1}, {1, 2}, {3, 2}}}, 2, api.ErrMissing},
		{api.MoveNetwork{Cells: abc, Neighbours: pairs{{0, 1}, {1, -1}}}, 1, api.ErrMissing},
		{api.MoveNetwork{Cells: abc, Neighbours: pairs{{0, 1}, {math.MinInt, math.MaxInt}}}, 1, api.ErrMissing},
		{api.MoveNetwork{Cells: abc, Neighbours: pairs{{0, 1}, {math.MaxInt, math.MinInt}}}, 1, api.ErrMissing},
		{api.MoveNetwork{Cells: abc, Neighbours: pairs{{0, 1}, {2, 1}}}, 1, api.ErrOrder},
		{api.MoveNetwork{Cells: abc, Neighbours: pairs{{1, 1}}}, 0, api.ErrOrder},
		{api.MoveNetwork{Cells: abc, Neighbours: pairs{{0, 1}, {1, 0}}}, 1, api.ErrOrder},
		{api.MoveNetwork{Cells: abc, Neighbours: pairs{{0, 1}, {1, 2}, {0, 1}}}, 2, api.ErrDouble},
		{api.MoveNetwork{Cells: abc, Neighbours: pairs{{0, 1}, {0, 1}, {2, 1}, {3, 4}}}, 1, api.ErrDouble},
		{api.MoveNetwork{Cells: abc, Neighbours: pairs{{0, 1}, {2, 1}, {0, 1}}}, 1, api.ErrOrder},
		{api.MoveNetwork{Cells: abc, Neighbours: pairs{{0, 1}, {1, 2}}, Limit: 0}, 0, api.ErrRange},
		{api.MoveNetwork{Cells: abc, Neighbours: pairs{{0, 1}, {1, 2}}, Limit: 100001}, 0, api.ErrRange},
	} {
		number, e := move.CheckNetwork(x.n)
		expect(t, fmt.Sprint("CheckNetwork ", x.n), number, e, x.number, x.e)
		f := move.CheckEvent(x.n, api.MoveEvent{})
		expect(t, fmt.Sprint("CheckEvent ", x.n), f, f, x.e, x.e)
	}
}

// TestNames tries each byte in a name.
func TestNames(t *testing.T) {
	const letters = "abcdefghijklmnopqrstuvwxyzABCDEFGHIJKLMNOPQRSTUVWXYZ"
	check := func(name string, isRight bool) {
		want := api.OK
		if !isRight {
			want = api.ErrName
		}
		number, e := move.CheckNetwork(api.MoveNetwork{Cells: []string{name}, Limit: 1})
		expect(t, fmt.Sprintf("CheckNetwork of %q", name), number, e, 0, want)
	}
	for c := range 256 {
		one := string([]byte{byte(c)})
		isLetter := strings.Contains(letters, one)
		isInside := isLetter || strings.Contains("0123456789-", one)
		check(one, isLetter)
		check(one+"a", isLetter)
		check("a"+one, isInside)
		check("a"+one+"b", isInside)
	}
	check("abcdefghijkl", true)
	check("abcdefghijklm", false)
	check(strings.Repeat("a", 1<<20), false)
}

func TestBegin(t *testing.T) {
	for cell, want := range []string{"0 0 0 0 -1 -1 0 0 0|||", "0 0 0 1 -1 -1 1 0 0|||", "0 0 0 2 -1 -1 2 0 0|||"} {
		x, e := move.Begin(exampleNetwork(), cell)
		expect(t, fmt.Sprint("Begin in ", cell), x, e, stateOf(want), api.OK)
	}
	x, e := move.Begin(api.MoveNetwork{Cells: []string{"a"}, Limit: 1}, 0)
	expect(t, "Begin in the only cell", x, e, stateOf("0 0 0 0 -1 -1 0 0 0|"), api.OK)
}

// TestNeighbours is of all networks of four cells: each cell of a pair is a neighbour of the other one, and no others are.
func TestNeighbours(t *testing.T) {
	all := allPairs(4)
	for set := range 1 << len(all) {
		n := api.MoveNetwork{Cells: []string{"a", "b", "c", "d"}, Limit: 1}
		for i, pair := range all {
			if set>>i&1 == 1 {
				n.Neighbours = append(n.Neighbours, pair)
			}
		}
		r := rand.New(rand.NewSource(int64(set)))
		r.Shuffle(len(n.Neighbours), func(i, j int) { n.Neighbours[i], n.Neighbours[j] = n.Neighbours[j], n.Neighbours[i] })
		for a := range 4 {
			for b := range 4 {
				want := api.ErrMissing
				if slices.Contains(n.Neighbours, [2]int{a, b}) || slices.Contains(n.Neighbours, [2]int{b, a}) {
					want = api.OK
				}
				_, e := move.Apply(n, must(move.Begin(n, a)), api.MoveEvent{Kind: api.MovePrepare, Cell: b})
				expect(t, fmt.Sprint("prepare ", n, a, b), e, e, want, want)
			}
		}
	}
}
