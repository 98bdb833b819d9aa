package beam_test

import (
	"fmt"
	"math/rand"
	"slices"
	"testing"

	"downtilt/api"
	"downtilt/beam"
)

// pairLists is all ascending lists of pairs of users that may share, of which no two have a user in common.
func pairLists(l [][]api.Gauss, most api.Frac) [][][2]int {
	lists := [][][2]int{nil}
	for a := range l {
		for b := range l {
			if a >= b || !must(beam.MayShare(l[a], l[b], most)) {
				continue
			}
			for _, list := range slices.Clone(lists) {
				if !slices.ContainsFunc(list, func(p [2]int) bool { return p[0] == a || p[1] == a || p[0] == b || p[1] == b }) {
					lists = append(lists, append(slices.Clone(list), [2]int{a, b}))
				}
			}
		}
	}
	return lists
}

// firstLongest is the lexicographically first one of the longest lists.
func firstLongest(lists [][][2]int) [][2]int {
	return slices.MinFunc(lists, func(a, b [][2]int) int {
		if len(a) != len(b) {
			return len(b) - len(a)
		}
		return slices.CompareFunc(a, b, func(p, q [2]int) int { return slices.Compare(p[:], q[:]) })
	})
}

// TestPairsExample is the example 4 of the chapter.
func TestPairsExample(t *testing.T) {
	users := [][]api.Gauss{{g(1, 0), g(0, 0)}, {g(0, 0), g(1, 0)}, {g(1, 0), g(1, 0)}}
	for _, most := range []api.Frac{frac(1, 3), frac(1, 2)} {
		l, e := beam.MostPairs(users, most)
		expect(t, fmt.Sprint("MostPairs ", most), l, e, [][2]int{{0, 1}}, api.OK)
	}
	n, e := beam.CheckPairs(users, frac(1, 2), [][2]int{{1, 2}})
	expect(t, "CheckPairs", n, e, 1, api.OK)
	n, e = beam.CheckPairs(users, frac(1, 3), [][2]int{{1, 2}})
	expect(t, "CheckPairs, part too great", n, e, 0, api.ErrClash)
}

// TestPairsInTheWay has the pair 0, 1, which is first, but leaves no other one.
func TestPairsInTheWay(t *testing.T) {
	a, b := g(1, 0), g(0, 0)
	users := [][]api.Gauss{{a, b, b, b}, {b, a, b, b}, {a, a, b, b}, {a, g(1, 1), b, b}}
	// 2 is apart from nobody, but along 0 and 1 by a half; 3 is along 0 by a third, and along 1 by two thirds
	l, e := beam.MostPairs(users, frac(1, 2))
	expect(t, "MostPairs", l, e, [][2]int{{0, 3}, {1, 2}}, api.OK)
	l, e = beam.MostPairs(users, frac(1, 3))
	expect(t, "MostPairs, a third", l, e, [][2]int{{0, 1}}, api.OK)
	l, e = beam.MostPairs(users, frac(1, 1))
	expect(t, "MostPairs, all", l, e, [][2]int{{0, 1}, {2, 3}}, api.OK)
}

func TestFewUsers(t *testing.T) {
	for _, users := range [][][]api.Gauss{nil, {{g(1, 0)}}, {{g(1, 0)}, {g(0, 1)}}} {
		l, e := beam.MostPairs(users, frac(0, 1))
		expect(t, "MostPairs", l, e, [][2]int(nil), api.OK)
		n, e := beam.CheckPairs(users, frac(0, 1), nil)
		expect(t, "CheckPairs", n, e, 0, api.OK)
	}
}

// TestMostPairs compares with all lists; P5.12 holds, since CheckPairs accepts all of them.
func TestMostPairs(t *testing.T) {
	r := rand.New(rand.NewSource(37))
	for i := range 3000 {
		users := randomUsers(r, i%7, 1+r.Intn(4), []int{1, 1, 2, 30}[r.Intn(4)])
		most := randomMost(r)
		lists := pairLists(users, most)
		l, e := beam.MostPairs(users, most)
		expect(t, fmt.Sprint("MostPairs ", users, most), l, e, firstLongest(lists), api.OK)
		for _, list := range append(lists, l) {
			n, e := beam.CheckPairs(users, most, list)
			expect(t, fmt.Sprint("CheckPairs ", users, most, list), n, e, len(list), api.OK)
			r.Shuffle(len(list), func(i, j int) { list[i], list[j] = list[j], list[i] })
			n, e = beam.CheckPairs(users, most, list)
			expect(t, fmt.Sprint("CheckPairs, in any order ", users, most, list), n, e, len(list), api.OK)
		}
	}
}

// errorOfPairs looks at one pair behind the other.
func errorOfPairs(users [][]api.Gauss, most api.Frac, pairs [][2]int) api.Errno {
	var earlier []int
	for _, p := range pairs {
		switch {
		case p[0] < 0 || p[0] >= len(users) || p[1] < 0 || p[1] >= len(users):
			return api.ErrMissing
		case p[0] >= p[1]:
			return api.ErrOrder
		case slices.Contains(earlier, p[0]) || slices.Contains(earlier, p[1]):
			return api.ErrDouble
		case partOf(users[p[0]], users[p[1]]).Cmp(ratOf(most)) > 0:
			return api.ErrClash
		}
		earlier = append(earlier, p[0], p[1])
	}
	return api.OK
}

// TestCheckPairs tries any pairs, and accepts no more of them than MostPairs has.
func TestCheckPairs(t *testing.T) {
	r := rand.New(rand.NewSource(38))
	seen := map[api.Errno]int{}
	for i := range 20000 {
		users := randomUsers(r, i%7, 1+r.Intn(4), []int{1, 2}[r.Intn(2)])
		most := randomMost(r)
		pairs := make([][2]int, r.Intn(5))
		for i := range pairs {
			pairs[i] = [2]int{r.Intn(len(users) + 1), r.Intn(len(users) + 1)}
			if r.Intn(3) > 0 {
				slices.Sort(pairs[i][:])
			}
			if r.Intn(20) == 0 {
				pairs[i][r.Intn(2)] = -1
			}
		}
		want := errorOfPairs(users, most, pairs)
		seen[want]++
		n, e := beam.CheckPairs(users, most, pairs)
		if want != api.OK {
			expect(t, fmt.Sprint("CheckPairs ", users, most, pairs), n, e, 0, want)
			continue
		}
		expect(t, fmt.Sprint("CheckPairs ", users, most, pairs), n, e, len(pairs), api.OK)
		if len(must(beam.MostPairs(users, most))) < n {
			t.Errorf("CheckPairs accepts %v of %v", pairs, users)
		}
	}
	for _, e := range []api.Errno{api.OK, api.ErrMissing, api.ErrOrder, api.ErrDouble, api.ErrClash} {
		if seen[e] < 100 {
			t.Errorf("the error %d came %d times", e, seen[e])
		}
	}
}
