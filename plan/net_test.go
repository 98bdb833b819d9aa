package plan_test

import (
	"fmt"
	"math"
	"math/rand"
	"slices"
	"testing"

	"downtilt/api"
	"downtilt/plan"
)

// allPairs is all pairs of so many cells.
func allPairs(cells int) [][2]int {
	var pairs [][2]int
	for a := range cells {
		for b := a + 1; b < cells; b++ {
			pairs = append(pairs, [2]int{a, b})
		}
	}
	return pairs
}

// star is a net in which the cell 0 is a neighbour of all others.
func star(cells int) api.PlanNet {
	return api.PlanNet{Cells: cells, Pairs: allPairs(cells)[:cells-1]}
}

func TestNets(t *testing.T) {
	type pairs = [][2]int
	for _, x := range []struct {
		cells  int
		pairs  pairs
		number int
		e      api.Errno
	}{
		{0, nil, 0, api.ErrRange},
		{-1, nil, 0, api.ErrRange},
		{9, nil, 0, api.ErrRange},
		{math.MinInt, nil, 0, api.ErrRange},
		{math.MaxInt, nil, 0, api.ErrRange},
		{0, make(pairs, 65), 0, api.ErrRange},
		{8, make(pairs, 65), 0, api.ErrLarge},
		{1, make(pairs, 65), 0, api.ErrLarge},
		{8, make(pairs, 64), 0, api.ErrOrder},
		{8, append(allPairs(8), make(pairs, 36)...), 28, api.ErrOrder}, // 64 pairs
		{8, append(allPairs(8), make(pairs, 37)...), 0, api.ErrLarge},
		{1, pairs{{0, 0}}, 0, api.ErrOrder},
		{1, pairs{{0, 1}}, 0, api.ErrMissing},
		{4, pairs{{0, 1}, {0, 4}}, 1, api.ErrMissing},
		{4, pairs{{-1, 0}}, 0, api.ErrMissing},
		{4, pairs{{4, 0}}, 0, api.ErrMissing}, // ahead of ErrOrder
		{4, pairs{{4, 4}}, 0, api.ErrMissing},
		{4, pairs{{1, -1}}, 0, api.ErrMissing},
		{4, pairs{{0, 2}, {0, -1}}, 1, api.ErrMissing},
		{4, pairs{{1, 2}, {0, 4}}, 1, api.ErrMissing},
		{4, pairs{{1, 2}, {-1, 3}}, 1, api.ErrMissing},
		{4, pairs{{0, math.MaxInt}}, 0, api.ErrMissing},
		{4, pairs{{math.MinInt, 1}}, 0, api.ErrMissing},
		{4, pairs{{3, 3}}, 0, api.ErrOrder},
		{4, pairs{{1, 0}}, 0, api.ErrOrder},
		{4, pairs{{0, 1}, {0, 1}}, 1, api.ErrOrder},
		{4, pairs{{0, 2}, {0, 1}}, 1, api.ErrOrder},
		{4, pairs{{1, 2}, {0, 3}}, 1, api.ErrOrder},
		{4, pairs{{1, 2}, {2, 1}}, 1, api.ErrOrder},
		{4, pairs{{0, 1}, {0, 2}, {0, 3}, {1, 2}, {1, 1}}, 4, api.ErrOrder},
		{4, pairs{{0, 1}, {0, 1}, {0, 4}}, 1, api.ErrOrder}, // pair by pair
		{4, pairs{{0, 4}, {0, 1}, {0, 1}}, 0, api.ErrMissing},
		{4, pairs{{0, 3}, {1, 2}}, 0, api.OK}, // the second number may be less than that of the one before
		{4, pairs{{0, 1}, {0, 3}, {2, 3}}, 0, api.OK},
		{8, allPairs(8), 0, api.OK},
		{8, pairs{{6, 7}}, 0, api.OK},
		{8, nil, 0, api.OK},
		{1, nil, 0, api.OK},
		{2, pairs{{0, 1}}, 0, api.OK},
	} {
		number, e := plan.CheckNet(api.PlanNet{Cells: x.cells, Pairs: x.pairs})
		expect(t, fmt.Sprint("CheckNet ", x.cells, x.pairs), number, e, x.number, x.e)
	}
}

// expectNear compares what is near each cell.
func expectNear(t *testing.T, n api.PlanNet, want ...[]int) {
	t.Helper()
	for cell, cells := range want {
		near, e := plan.Near(n, cell)
		expect(t, fmt.Sprint("Near ", n, cell), near, e, cells, api.OK)
	}
}

// expectConfusion compares the first confusion (no cells: there is none).
func expectConfusion(t *testing.T, n api.PlanNet, identities []int, cells ...int) {
	t.Helper()
	pair, e := plan.FirstConfusion(n, identities)
	want, f := [2]int{}, api.ErrNone
	if len(cells) > 0 {
		want, f = [2]int(cells), api.OK
	}
	expect(t, fmt.Sprint("FirstConfusion ", n, identities), pair, e, want, f)
}

// expectKinds compares the kinds, and how many there are.
func expectKinds(t *testing.T, n api.PlanNet, count int, want ...int) {
	t.Helper()
	kinds, number, e := plan.FewestKinds(n)
	expect(t, fmt.Sprint("FewestKinds ", n), []any{kinds, number}, e, []any{want, count}, api.OK)
}

// expectClique compares the greatest clique, which is accepted.
func expectClique(t *testing.T, n api.PlanNet, want ...int) {
	t.Helper()
	cells, e := plan.Clique(n)
	expect(t, fmt.Sprint("Clique ", n), cells, e, want, api.OK)
	count, e := plan.CheckClique(n, cells)
	expect(t, fmt.Sprint("CheckClique ", n, cells), count, e, len(want), api.OK)
}

// TestNetsExample is the example 4 of the chapter.
func TestNetsExample(t *testing.T) {
	n := rowOf(4)
	expectNear(t, n, []int{1, 2}, []int{0, 2, 3}, []int{0, 1, 3}, []int{1, 2})
	expectKinds(t, n, 3, 0, 1, 2, 0)
	expectClique(t, n, 0, 1, 2)
	expectConfusion(t, n, []int{5, 6, 5, 7}, 0, 2)
}

func TestNear(t *testing.T) {
	expectNear(t, api.PlanNet{Cells: 1}, nil)
	expectNear(t, api.PlanNet{Cells: 3}, nil, nil, nil)
	expectNear(t, api.PlanNet{Cells: 3, Pairs: [][2]int{{0, 2}}}, []int{2}, nil, []int{0})
	expectNear(t, star(4), []int{1, 2, 3}, []int{0, 2, 3}, []int{0, 1, 3}, []int{0, 1, 2}) // by a common neighbour alone
	expectNear(t, api.PlanNet{Cells: 4, Pairs: [][2]int{{0, 3}, {1, 3}, {2, 3}}}, []int{1, 2, 3}, []int{0, 2, 3}, []int{0, 1, 3}, []int{0, 1, 2})
	expectNear(t, rowOf(6), []int{1, 2}, []int{0, 2, 3}, []int{0, 1, 3, 4}, []int{1, 2, 4, 5}, []int{2, 3, 5}, []int{3, 4})
	expectNear(t, api.PlanNet{Cells: 6, Pairs: [][2]int{{0, 3}, {1, 4}, {2, 3}, {2, 5}}}, []int{2, 3}, []int{4}, []int{0, 3, 5}, []int{0, 2, 5}, []int{1}, []int{2, 3})
	for cell := range 8 {
		others := slices.Delete([]int{0, 1, 2, 3, 4, 5, 6, 7}, cell, cell+1)
		near, e := plan.Near(api.PlanNet{Cells: 8, Pairs: allPairs(8)}, cell)
		expect(t, "Near in a net with all pairs", near, e, others, api.OK)
	}
}

func TestConfusions(t *testing.T) {
	expectConfusion(t, api.PlanNet{Cells: 1}, []int{7})
	expectConfusion(t, api.PlanNet{Cells: 3}, []int{7, 7, 7})
	expectConfusion(t, rowOf(4), []int{5, 6, 7, 5})
	expectConfusion(t, rowOf(4), []int{0, 1, 2, 1007})
	expectConfusion(t, rowOf(4), []int{0, 0, 0, 0}, 0, 1)
	expectConfusion(t, rowOf(4), []int{1007, 0, 1, 0}, 1, 3)
	expectConfusion(t, rowOf(4), []int{1, 0, 1007, 1007}, 2, 3)
	expectConfusion(t, rowOf(4), []int{1, 0, 1, 1}, 0, 2) // the first one
	expectConfusion(t, rowOf(4), []int{2, 1, 1, 2}, 1, 2)
	expectConfusion(t, rowOf(5), []int{1, 2, 3, 2, 3}, 1, 3)
	expectConfusion(t, rowOf(5), []int{1, 2, 3, 1, 3}, 2, 4)
	expectConfusion(t, star(5), []int{1, 2, 3, 4, 2}, 1, 4)
	expectConfusion(t, star(5), []int{4, 3, 3, 2, 4}, 0, 4) // the first number counts first
	expectConfusion(t, star(5), []int{1, 2, 3, 2, 2}, 1, 3)
}

func TestKinds(t *testing.T) {
	expectKinds(t, api.PlanNet{Cells: 1}, 1, 0)
	expectKinds(t, api.PlanNet{Cells: 8}, 1, 0, 0, 0, 0, 0, 0, 0, 0)
	expectKinds(t, api.PlanNet{Cells: 2, Pairs: [][2]int{{0, 1}}}, 2, 0, 1)
	expectKinds(t, api.PlanNet{Cells: 8, Pairs: allPairs(8)}, 8, 0, 1, 2, 3, 4, 5, 6, 7)
	expectKinds(t, star(8), 8, 0, 1, 2, 3, 4, 5, 6, 7)
	expectKinds(t, star(7), 7, 0, 1, 2, 3, 4, 5, 6)
	expectKinds(t, rowOf(8), 3, 0, 1, 2, 0, 1, 2, 0, 1)
	expectKinds(t, api.PlanNet{Cells: 6, Pairs: [][2]int{{1, 2}, {3, 4}, {4, 5}}}, 3, 0, 0, 1, 0, 1, 2)
	// a ring of five: all are near one another; of seven: each near four
	expectKinds(t, api.PlanNet{Cells: 5, Pairs: [][2]int{{0, 1}, {0, 4}, {1, 2}, {2, 3}, {3, 4}}}, 5, 0, 1, 2, 3, 4)
	expectKinds(t, api.PlanNet{Cells: 7, Pairs: [][2]int{{0, 1}, {0, 6}, {1, 2}, {2, 3}, {3, 4}, {4, 5}, {5, 6}}}, 4, 0, 1, 2, 0, 1, 2, 3)
	// taking the least kind for each cell would take more kinds than are needed
	expectKinds(t, api.PlanNet{Cells: 6, Pairs: [][2]int{{0, 4}, {1, 5}, {2, 3}, {2, 4}, {3, 5}}}, 3, 0, 1, 1, 0, 2, 2)
}

func TestCliques(t *testing.T) {
	expectClique(t, api.PlanNet{Cells: 1}, 0)
	expectClique(t, api.PlanNet{Cells: 8}, 0)
	expectClique(t, api.PlanNet{Cells: 3, Pairs: [][2]int{{1, 2}}}, 1, 2)
	expectClique(t, api.PlanNet{Cells: 8, Pairs: allPairs(8)}, 0, 1, 2, 3, 4, 5, 6, 7)
	expectClique(t, star(7), 0, 1, 2, 3, 4, 5, 6)
	expectClique(t, rowOf(8), 0, 1, 2)
	expectClique(t, api.PlanNet{Cells: 8, Pairs: [][2]int{{0, 2}, {1, 3}, {1, 5}, {4, 7}, {6, 7}}}, 1, 3, 5)
	expectClique(t, api.PlanNet{Cells: 8, Pairs: [][2]int{{0, 1}, {0, 2}, {3, 4}, {3, 5}, {3, 6}}}, 3, 4, 5, 6)
	for _, x := range []struct {
		cells []int
		count int
		e     api.Errno
	}{
		{[]int{0}, 1, api.OK},
		{[]int{3}, 1, api.OK},
		{[]int{0, 1}, 2, api.OK},
		{[]int{0, 2}, 2, api.OK}, // it need not be the greatest one
		{[]int{1, 3}, 2, api.OK},
		{[]int{1, 2, 3}, 3, api.OK},
		{[]int{0, 3}, 0, api.ErrClash},
		{[]int{0, 1, 3}, 0, api.ErrClash},
		{[]int{0, 1, 2, 3}, 0, api.ErrClash},
		{[]int{0, 3, 4}, 0, api.ErrMissing}, // ahead of ErrClash
		{[]int{0, 3, 3}, 0, api.ErrOrder},
		{nil, 0, api.ErrShape},
	} {
		count, e := plan.CheckClique(rowOf(4), x.cells)
		expect(t, fmt.Sprint("CheckClique ", x.cells), count, e, x.count, x.e)
	}
}

// eachNet calls a function with all nets of up to four cells, and some greater ones.
func eachNet(seed int64, call func(*rand.Rand, api.PlanNet)) {
	r := rand.New(rand.NewSource(seed))
	for cells := range 5 {
		for _, set := range allSets(len(allPairs(cells))) {
			n := api.PlanNet{Cells: cells}
			for i, pair := range allPairs(cells) {
				if slices.Contains(set, i) {
					n.Pairs = append(n.Pairs, pair)
				}
			}
			if cells > 0 {
				call(r, n)
			}
		}
	}
	for range 300 {
		call(r, randomNet(r))
	}
}

// TestNearSlowly compares with areNear and slowPair.
func TestNearSlowly(t *testing.T) {
	seen := map[bool]int{}
	eachNet(97, func(r *rand.Rand, n api.PlanNet) {
		for cell := range n.Cells {
			var want []int
			for other := range n.Cells {
				if areNear(n, cell, other) {
					want = append(want, other)
				}
			}
			near, e := plan.Near(n, cell)
			expect(t, fmt.Sprint("Near ", n, cell), near, e, want, api.OK)
		}
		for range 5 {
			identities := randomList(r, n.Cells, 0, 6)
			if r.Intn(5) == 0 {
				identities = randomList(r, n.Cells, 0, 1007)
			}
			pair := slowPair(n, func(a, b int) bool { return identities[a] == identities[b] })
			seen[pair != nil]++
			if pair == nil {
				expectConfusion(t, n, identities)
			} else {
				expectConfusion(t, n, identities, pair[0], pair[1])
			}
		}
	})
	if seen[true] < 500 || seen[false] < 500 {
		t.Errorf("seen %v", seen)
	}
}

// slowKinds tries all lists in which a new kind is the least one that no earlier cell has: the lexicographically first list of so many kinds is one of these.
func slowKinds(n api.PlanNet) ([]int, int) {
	var best []int
	fewest := n.Cells + 1
	var try func(kinds []int, count int)
	try = func(kinds []int, count int) {
		cell := len(kinds)
		if cell == n.Cells {
			if count < fewest {
				best, fewest = slices.Clone(kinds), count
			}
			return
		}
		for kind := range count + 1 {
			isFree := true
			for other, its := range kinds {
				isFree = isFree && !(its == kind && areNear(n, cell, other))
			}
			if isFree {
				try(append(kinds, kind), max(count, kind+1))
			}
		}
	}
	try(nil, 0)
	return best, fewest
}

// TestKindsOfSmallNets tries all lists of kinds.
func TestKindsOfSmallNets(t *testing.T) {
	eachNet(98, func(r *rand.Rand, n api.PlanNet) {
		if n.Cells > 4 {
			return
		}
		var best []int
		fewest := 99
		for number := range 256 {
			kinds := []int{number / 64, number / 16 % 4, number / 4 % 4, number % 4}[4-n.Cells:]
			if number>>(2*n.Cells) > 0 || slowPair(n, func(a, b int) bool { return kinds[a] == kinds[b] }) != nil {
				continue
			}
			sorted := slices.Sorted(slices.Values(kinds))
			if count := len(slices.Compact(sorted)); count < fewest {
				best, fewest = kinds, count
			}
		}
		expectKinds(t, n, fewest, best...)
	})
}

// TestKindsAndCliquesSlowly compares with slowKinds and slowGreatest, and is P9.12.
func TestKindsAndCliquesSlowly(t *testing.T) {
	counts, more := map[int]int{}, 0
	eachNet(99, func(r *rand.Rand, n api.PlanNet) {
		kinds, count := slowKinds(n)
		expectKinds(t, n, count, kinds...)
		counts[count]++
		identities := r.Perm(1008)[:8]
		var own []int
		for _, kind := range kinds {
			own = append(own, identities[kind])
		}
		expectConfusion(t, n, own)
		isClique := func(set []int) bool {
			for i, a := range set {
				for _, b := range set[i+1:] {
					if !areNear(n, a, b) {
						return false
					}
				}
			}
			return true
		}
		clique := slowGreatest(n.Cells, isClique)
		expectClique(t, n, clique...)
		if len(clique) > count {
			t.Errorf("%v: %d kinds, and the clique %v", n, count, clique)
		}
		if len(clique) < count {
			more++
		}
		set := randomSet(r, n.Cells)
		if len(set) == 0 {
			return
		}
		size, e := plan.CheckClique(n, set)
		if isClique(set) {
			expect(t, fmt.Sprint("CheckClique ", n, set), size, e, len(set), api.OK)
		} else {
			expect(t, fmt.Sprint("CheckClique ", n, set), size, e, 0, api.ErrClash)
		}
	})
	for count := 1; count <= 8; count++ {
		if counts[count] < 5 {
			t.Errorf("%d kinds: %d times", count, counts[count])
		}
	}
	if more == 0 {
		t.Error("never more kinds than a clique has cells")
	}
}

// TestRootsExample is the example 5 of the chapter.
func TestRootsExample(t *testing.T) {
	n, needs := rowOf(4), []int{4, 4, 4, 4}
	first, e := plan.RootsFor(n, needs, 12)
	expect(t, "RootsFor out of 12", first, e, []int{0, 4, 8, 0}, api.OK)
	first, e = plan.RootsFor(n, needs, 11)
	expect(t, "RootsFor out of 11", first, e, []int(nil), api.ErrFull)
}

func TestRoots(t *testing.T) {
	for _, x := range []struct {
		n     api.PlanNet
		needs []int
		all   int
		want  []int
		e     api.Errno
	}{
		{api.PlanNet{Cells: 1}, []int{20}, 20, []int{0}, api.OK},
		{api.PlanNet{Cells: 1}, []int{20}, 19, nil, api.ErrFull},
		{api.PlanNet{Cells: 1}, []int{1}, 1, []int{0}, api.OK},
		{api.PlanNet{Cells: 3}, []int{5, 20, 1}, 20, []int{0, 0, 0}, api.OK}, // they are not near each other
		{api.PlanNet{Cells: 3}, []int{5, 1, 20}, 19, nil, api.ErrFull},
		{rowOf(4), []int{1, 1, 1, 1}, 3, []int{0, 1, 2, 0}, api.OK},
		{rowOf(4), []int{1, 1, 1, 1}, 2, nil, api.ErrFull},
		{rowOf(4), []int{4, 3, 2, 4}, 9, []int{0, 4, 7, 0}, api.OK}, // 0 to 3 are free again
		{rowOf(4), []int{4, 3, 2, 5}, 14, []int{0, 4, 7, 9}, api.OK},
		{rowOf(4), []int{4, 3, 2, 5}, 13, nil, api.ErrFull},
		{rowOf(5), []int{2, 3, 4, 2, 3}, 10, []int{0, 2, 5, 0, 2}, api.OK},
		{rowOf(5), []int{2, 3, 4, 1, 1}, 9, []int{0, 2, 5, 0, 1}, api.OK}, // a gap with some room left
		{rowOf(5), []int{2, 3, 4, 1, 4}, 13, []int{0, 2, 5, 0, 1}, api.OK},
		{rowOf(5), []int{2, 3, 4, 1, 5}, 14, []int{0, 2, 5, 0, 9}, api.OK},
		{star(6), []int{20, 20, 20, 20, 20, 20}, 120, []int{0, 20, 40, 60, 80, 100}, api.OK},
		{star(7), []int{20, 20, 20, 20, 20, 20, 18}, 138, []int{0, 20, 40, 60, 80, 100, 120}, api.OK},
		{star(7), []int{20, 20, 20, 20, 20, 20, 19}, 138, nil, api.ErrFull},
	} {
		first, e := plan.RootsFor(x.n, x.needs, x.all)
		expect(t, fmt.Sprint("RootsFor ", x.n, x.needs, x.all), first, e, x.want, x.e)
	}
}

func TestRootClashes(t *testing.T) {
	pair := api.PlanNet{Cells: 2, Pairs: [][2]int{{0, 1}}}
	for _, x := range []struct {
		n     api.PlanNet
		needs []int
		first []int
		want  [2]int
		e     api.Errno
	}{
		{api.PlanNet{Cells: 1}, []int{20}, []int{137}, [2]int{}, api.ErrNone},
		{api.PlanNet{Cells: 2}, []int{20, 20}, []int{5, 5}, [2]int{}, api.ErrNone},
		{pair, []int{1, 1}, []int{5, 5}, [2]int{0, 1}, api.OK},
		{pair, []int{1, 1}, []int{5, 6}, [2]int{}, api.ErrNone},
		{pair, []int{2, 1}, []int{5, 6}, [2]int{0, 1}, api.OK},
		{pair, []int{2, 1}, []int{5, 7}, [2]int{}, api.ErrNone},
		{pair, []int{1, 2}, []int{6, 5}, [2]int{0, 1}, api.OK},
		{pair, []int{1, 2}, []int{7, 5}, [2]int{}, api.ErrNone},
		{pair, []int{20, 1}, []int{0, 10}, [2]int{0, 1}, api.OK}, // one within the other
		{pair, []int{1, 20}, []int{10, 0}, [2]int{0, 1}, api.OK},
		{pair, []int{20, 20}, []int{137, 118}, [2]int{0, 1}, api.OK}, // beyond all roots, too
		{pair, []int{20, 20}, []int{137, 117}, [2]int{}, api.ErrNone},
		{pair, []int{20, 20}, []int{137, 0}, [2]int{}, api.ErrNone}, // they do not begin anew
		{rowOf(4), []int{4, 4, 4, 4}, []int{0, 4, 8, 0}, [2]int{}, api.ErrNone},
		{rowOf(4), []int{4, 4, 4, 4}, []int{0, 4, 3, 0}, [2]int{0, 2}, api.OK},
		{rowOf(4), []int{4, 4, 4, 4}, []int{0, 4, 8, 7}, [2]int{1, 3}, api.OK},
		{rowOf(4), []int{4, 4, 4, 4}, []int{0, 4, 8, 11}, [2]int{2, 3}, api.OK},
		{rowOf(4), []int{4, 4, 4, 4}, []int{0, 3, 6, 6}, [2]int{0, 1}, api.OK},
		{star(5), []int{1, 1, 1, 1, 1}, []int{0, 1, 1, 2, 0}, [2]int{0, 4}, api.OK},
	} {
		got, e := plan.FirstRootClash(x.n, x.needs, x.first)
		expect(t, fmt.Sprint("FirstRootClash ", x.n, x.needs, x.first), got, e, x.want, x.e)
	}
}

// TestRootsSlowly compares with slowRoots and slowPair, and is P9.13.
func TestRootsSlowly(t *testing.T) {
	seen, clashes := map[api.Errno]int{}, map[bool]int{}
	eachNet(100, func(r *rand.Rand, n api.PlanNet) {
		needs := randomList(r, n.Cells, 1, []int{3, 20}[r.Intn(2)])
		all := 1 + upTo(r, []int{20, 137}[r.Intn(2)])
		want, f := slowRoots(n, needs, all), api.OK
		if want == nil {
			f = api.ErrFull
		}
		first, e := plan.RootsFor(n, needs, all)
		expect(t, fmt.Sprint("RootsFor ", n, needs, all), first, e, want, f)
		seen[e]++
		if e == api.OK {
			clash, e := plan.FirstRootClash(n, needs, first)
			expect(t, fmt.Sprint("FirstRootClash ", n, needs, first), clash, e, [2]int{}, api.ErrNone)
			for cell, root := range first {
				if root < 0 || root+needs[cell] > all {
					t.Errorf("the roots %v of %v out of %d", first, needs, all)
				}
			}
		}
		first = randomList(r, n.Cells, 0, 137)
		pair := slowPair(n, func(a, b int) bool { return haveCommon(rootSet(first[a], needs[a]), rootSet(first[b], needs[b])) })
		clash, f := [2]int{}, api.ErrNone
		if pair != nil {
			clash, f = *pair, api.OK
		}
		got, e := plan.FirstRootClash(n, needs, first)
		expect(t, fmt.Sprint("FirstRootClash ", n, needs, first), got, e, clash, f)
		clashes[pair != nil]++
	})
	if seen[api.OK] < 100 || seen[api.ErrFull] < 100 || clashes[true] < 100 || clashes[false] < 100 {
		t.Errorf("seen %v, clashes %v", seen, clashes)
	}
}
