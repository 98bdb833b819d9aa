package beam_test

import (
	"math"
	"slices"
	"testing"

	"downtilt/api"
	"downtilt/beam"
)

// wrongInts is numbers that are beyond a range.
func wrongInts(lo, hi int) []wrong[int] {
	return []wrong[int]{{lo - 1, api.ErrRange}, {hi + 1, api.ErrRange}, {math.MinInt, api.ErrRange}, {math.MaxInt, api.ErrRange}}
}

func wrongBeams() []wrong[api.BeamBeam] {
	return []wrong[api.BeamBeam]{
		{phased(), api.ErrShape},
		{phased(make([]int, 9)...), api.ErrLarge},
		{phased(-1, -1, -1, -1, -1, -1, -1, -1, -1), api.ErrLarge},
		{phased(8, 8, 8, 8, 8, 8, 8, 8, 8), api.ErrLarge},
		{phased(-2), api.ErrRange},
		{phased(0, 8), api.ErrRange},
		{phased(-1, -1, 8), api.ErrRange},
		{phased(math.MaxInt, 0, 0), api.ErrRange},
		{phased(0, 0, 0, 0, 0, 0, 0, math.MinInt), api.ErrRange},
		{phased(-1), api.ErrZero},
		{phased(-1, -1, -1), api.ErrZero},
	}
}

// wrongChannels is channels with an error of their own.
func wrongChannels() []wrong[[]api.Gauss] {
	far := []api.Gauss{g(31, 0)}
	l := []wrong[[]api.Gauss]{
		{nil, api.ErrShape},
		{make([]api.Gauss, 9), api.ErrLarge},
		{slices.Repeat(far, 9), api.ErrLarge},
	}
	for _, part := range []int{31, -31, math.MinInt, math.MaxInt} {
		l = append(l,
			wrong[[]api.Gauss]{[]api.Gauss{g(part, 0), g(0, 0), g(0, 0)}, api.ErrRange},
			wrong[[]api.Gauss]{[]api.Gauss{g(30, -30), g(-30, 30), g(1, part)}, api.ErrRange},
			wrong[[]api.Gauss]{[]api.Gauss{g(0, part)}, api.ErrRange},
			wrong[[]api.Gauss]{append(make([]api.Gauss, 7), g(part, 1)), api.ErrRange})
	}
	return l
}

// clashingChannels is channels that are right, of another number of antennas than the right arguments have.
func clashingChannels() []wrong[[]api.Gauss] {
	return []wrong[[]api.Gauss]{
		{[]api.Gauss{g(1, 0)}, api.ErrClash},
		{[]api.Gauss{g(0, 0), g(0, 0)}, api.ErrClash},
		{[]api.Gauss{g(0, 0), g(1, 1), g(0, 0), g(0, 0)}, api.ErrClash},
		{make([]api.Gauss, 8), api.ErrClash},
	}
}

func wrongBooks() []wrong[[]api.BeamBeam] {
	right := rightArguments().Book
	l := []wrong[[]api.BeamBeam]{
		{nil, api.ErrShape},
		{slices.Repeat(right[:1], 17), api.ErrLarge},
		{make([]api.BeamBeam, 17), api.ErrLarge},
		{[]api.BeamBeam{phased(1), phased(-1), phased()}, api.ErrZero},
		{[]api.BeamBeam{phased(1), phased(), phased(-1)}, api.ErrShape},
	}
	for _, w := range wrongBeams() {
		last := slices.Repeat(right[:1], 16)
		last[15] = w.x
		l = append(l,
			wrong[[]api.BeamBeam]{append([]api.BeamBeam{w.x}, right...), w.e},
			wrong[[]api.BeamBeam]{last, w.e})
	}
	return l
}

// wrongMosts is fractions that are no greatest parts.
func wrongMosts() []wrong[api.Frac] {
	return []wrong[api.Frac]{
		{frac(0, 0), api.ErrForm},
		{frac(1, 0), api.ErrForm},
		{frac(0, 2), api.ErrForm},
		{frac(2, 4), api.ErrForm},
		{frac(3, 3), api.ErrForm},
		{frac(6, 4), api.ErrForm},
		{frac(-2, 2), api.ErrForm},
		{frac(1, -1), api.ErrForm},
		{frac(-1, -2), api.ErrForm},
		{frac(2, 2000000000), api.ErrForm},
		{frac(math.MinInt, math.MinInt), api.ErrForm},
		{frac(math.MinInt, 2), api.ErrForm},
		{frac(math.MaxInt, math.MaxInt), api.ErrForm},
		{frac(1, math.MinInt), api.ErrForm},
		{frac(-1, 1), api.ErrRange},
		{frac(-1, 2), api.ErrRange},
		{frac(2, 1), api.ErrRange},
		{frac(3, 2), api.ErrRange},
		{frac(1000000001, 1000000000), api.ErrRange},
		{frac(1, 1000000001), api.ErrRange},
		{frac(1, math.MaxInt), api.ErrRange},
		{frac(math.MinInt, 1), api.ErrRange},
		{frac(math.MinInt, math.MaxInt), api.ErrRange},
		{frac(math.MaxInt, 1), api.ErrRange},
	}
}

func wrongUsers() []wrong[[][]api.Gauss] {
	right, zero := []api.Gauss{g(1, 0), g(0, 0)}, make([]api.Gauss, 2)
	short, far := []api.Gauss{g(0, 0)}, []api.Gauss{g(0, 31)}
	l := []wrong[[][]api.Gauss]{
		{slices.Repeat([][]api.Gauss{right}, 7), api.ErrLarge},
		{make([][]api.Gauss, 7), api.ErrLarge},
		{[][]api.Gauss{zero}, api.ErrZero},
		{[][]api.Gauss{right, zero, short, far}, api.ErrZero},
		{[][]api.Gauss{right, short, zero, far}, api.ErrClash},
		{[][]api.Gauss{right, far, short, zero}, api.ErrRange},
		{[][]api.Gauss{right, right, right, right, right, zero}, api.ErrZero},
		{[][]api.Gauss{right, right, right, right, right, make([]api.Gauss, 3)}, api.ErrClash},
	}
	for _, w := range wrongChannels() {
		l = append(l,
			wrong[[][]api.Gauss]{[][]api.Gauss{w.x, right, right, right}, w.e},
			wrong[[][]api.Gauss]{[][]api.Gauss{right, right, right, w.x}, w.e})
	}
	return l
}

func wrongPairs() []wrong[[][2]int] {
	type pairs = [][2]int
	return []wrong[pairs]{
		{pairs{{0, 4}}, api.ErrMissing},
		{pairs{{4, 0}}, api.ErrMissing},
		{pairs{{-1, 0}}, api.ErrMissing},
		{pairs{{0, -1}}, api.ErrMissing},
		{pairs{{4, 4}}, api.ErrMissing},
		{pairs{{math.MinInt, 1}}, api.ErrMissing},
		{pairs{{0, math.MaxInt}}, api.ErrMissing},
		{pairs{{0, 1}, {0, 4}}, api.ErrMissing},
		{pairs{{0, 1}, {4, 1}}, api.ErrMissing},
		{pairs{{0, 1}, {2, 1}, {0, 9}}, api.ErrOrder},
		{pairs{{1, 0}}, api.ErrOrder},
		{pairs{{1, 1}}, api.ErrOrder},
		{pairs{{0, 1}, {1, 1}}, api.ErrOrder},
		{pairs{{0, 1}, {0, 1}}, api.ErrDouble},
		{pairs{{0, 1}, {1, 2}, {3, 2}}, api.ErrDouble},
		{pairs{{0, 1}, {2, 3}, {0, 2}}, api.ErrDouble},
		{pairs{{1, 2}, {0, 1}}, api.ErrDouble},
		{slices.Repeat(pairs{{0, 1}}, 1000), api.ErrDouble},
	}
}

// wrongLists is lists of powers that are to be from 0 to most.
func wrongLists(most int) []wrong[[]int] {
	l := []wrong[[]int]{
		{make([]int, 13), api.ErrLarge},
		{slices.Repeat([]int{-1}, 13), api.ErrLarge},
		{[]int{most, most, most, most + 1}, api.ErrRange},
	}
	for _, w := range wrongInts(0, most) {
		l = append(l,
			wrong[[]int]{[]int{w.x}, w.e},
			wrong[[]int]{[]int{w.x, 0, 0}, w.e},
			wrong[[]int]{append(make([]int, 11), w.x), w.e})
	}
	return l
}

func beams() []mistake {
	return mistakes("beam", func(a *arguments) *api.BeamBeam { return &a.B }, wrongBeams())
}

func steps() []mistake {
	return mistakes("step", func(a *arguments) *int { return &a.Step }, wrongInts(0, 7))
}

func firsts(all []wrong[[]api.Gauss]) []mistake {
	return mistakes("g", func(a *arguments) *[]api.Gauss { return &a.G }, all)
}

func seconds(all []wrong[[]api.Gauss]) []mistake {
	return mistakes("h", func(a *arguments) *[]api.Gauss { return &a.H }, all)
}

// both touches the two channels.
func both(x, y []api.Gauss, e api.Errno) mistake {
	return mistake{"g and h", func(a *arguments) { a.G, a.H = x, y }, e}
}

func mosts() []mistake {
	return mistakes("most", func(a *arguments) *api.Frac { return &a.Most }, wrongMosts())
}

func users() []mistake {
	return mistakes("users", func(a *arguments) *[][]api.Gauss { return &a.Users }, wrongUsers())
}

func panels() []mistake {
	power := mistakes("power", func(a *arguments) *int { return &a.Panel.Power }, wrongInts(0, 1000000))
	return append(power, mistakes("most", func(a *arguments) *int { return &a.Panel.Most }, wrongInts(0, 1000000))...)
}

func TestErrorsOfBeams(t *testing.T) {
	checkErrors(t, "CheckBeam", beams())
	checkErrors(t, "Steering", mistakes("antennas", func(a *arguments) *int { return &a.Antennas }, wrongInts(1, 8)), steps())
	checkErrors(t, "ResponseOf", beams(), steps())
	checkErrors(t, "GainOf", beams(), steps())
	checkErrors(t, "Nulls", beams())
	checkErrors(t, "Refined", steps())
}

func TestErrorsOfSweeps(t *testing.T) {
	checkErrors(t, "PowerOf", beams(), seconds(wrongChannels()))
	checkErrors(t, "PowerOf", seconds(clashingChannels()))
	for _, name := range []string{"Sweep", "BestOf"} {
		books := func(all []wrong[[]api.BeamBeam]) []mistake {
			return mistakes("book", func(a *arguments) *[]api.BeamBeam { return &a.Book }, all)
		}
		clash := books([]wrong[[]api.BeamBeam]{
			{[]api.BeamBeam{phased(0)}, api.ErrClash},
			{[]api.BeamBeam{phased(0, 1, 2, 3), phased(1, 2, 3)}, api.ErrClash},
			{[]api.BeamBeam{phased(1, 2, 3), phased(1, 2, 3), phased(0, 1)}, api.ErrClash},
		})
		checkErrors(t, name, books(wrongBooks()), seconds(wrongChannels()))
		checkErrors(t, name, books(wrongBooks()), seconds(clashingChannels()))
		checkErrors(t, name, seconds(wrongChannels()), clash)
		checkErrors(t, name, seconds(clashingChannels()))
	}
	var squares []wrong[api.BeamSquare]
	for _, far := range []int{1000000000001, -1000000000001, math.MinInt, math.MaxInt} {
		squares = append(squares, wrong[api.BeamSquare]{square(far, 0), api.ErrRange}, wrong[api.BeamSquare]{square(0, far), api.ErrRange})
	}
	checkErrors(t, "Larger",
		mistakes("a", func(a *arguments) *api.BeamSquare { return &a.P }, squares),
		mistakes("b", func(a *arguments) *api.BeamSquare { return &a.Q }, squares))
}

func TestErrorsOfChannels(t *testing.T) {
	zero, right := make([]api.Gauss, 3), rightArguments().G
	short, zeroShort := []api.Gauss{g(1, 0)}, []api.Gauss{g(0, 0)}
	clash := []mistake{both(right, short, api.ErrClash), both(short, right, api.ErrClash), both(zero, short, api.ErrClash), both(zeroShort, zero, api.ErrClash), both(make([]api.Gauss, 8), zero, api.ErrClash)}
	nothing := []mistake{both(zero, right, api.ErrZero), both(right, zero, api.ErrZero), both(zero, zero, api.ErrZero), both(zeroShort, short, api.ErrZero), both(short, zeroShort, api.ErrZero)}
	checkErrors(t, "InnerOf", firsts(wrongChannels()), seconds(wrongChannels()))
	checkErrors(t, "InnerOf", firsts(wrongChannels()), seconds(clashingChannels()))
	checkErrors(t, "InnerOf", clash)
	for _, name := range []string{"PartOf", "Cleared", "KeptOf", "MayShare"} {
		checkErrors(t, name, firsts(wrongChannels()), seconds(wrongChannels()))
		checkErrors(t, name, firsts(wrongChannels()), seconds(clashingChannels()))
		checkErrors(t, name, seconds(wrongChannels()), firsts(clashingChannels()))
		checkErrors(t, name, seconds(wrongChannels()), firsts([]wrong[[]api.Gauss]{{zero, api.ErrZero}}))
		checkErrors(t, name, clash)
		checkErrors(t, name, nothing)
	}
	checkErrors(t, "MayShare", firsts(wrongChannels()), mosts())
	checkErrors(t, "MayShare", seconds(wrongChannels()), mosts())
	checkErrors(t, "MayShare", clash, mosts())
	checkErrors(t, "MayShare", nothing, mosts())
}

// TestRightMosts is of greatest parts at the ends of what they may be.
func TestRightMosts(t *testing.T) {
	for _, most := range []api.Frac{frac(0, 1), frac(1, 1), frac(1, 2), frac(1, 1000000000), frac(999999999, 1000000000), frac(2, 999999999)} {
		a := rightArguments()
		a.Most = most
		for _, name := range []string{"MayShare", "MostPairs", "CheckPairs"} {
			if name == "CheckPairs" {
				a.Pairs = a.Pairs[:1]
			}
			if _, e := functionOf(name).call(a); e != api.OK {
				t.Errorf("%s, %v: error %d", name, most, e)
			}
		}
	}
}

func TestErrorsOfPairs(t *testing.T) {
	pairs := func(all []wrong[[][2]int]) []mistake {
		return mistakes("pairs", func(a *arguments) *[][2]int { return &a.Pairs }, all)
	}
	checkErrors(t, "MostPairs", users(), mosts())
	checkErrors(t, "CheckPairs", users(), mosts(), pairs(wrongPairs()))
	// 0 is along 2 by a half
	half := mistakes("most", func(a *arguments) *api.Frac { return &a.Most }, []wrong[api.Frac]{{frac(499999999, 1000000000), api.ErrClash}, {frac(0, 1), api.ErrClash}})
	for i := range half {
		change := half[i].change
		half[i].change = func(a *arguments) {
			change(a)
			a.Pairs = [][2]int{{0, 2}, {0, 9}}
		}
	}
	checkErrors(t, "CheckPairs", half)
	for _, x := range []struct {
		pairs [][2]int
		e     api.Errno
	}{
		{[][2]int{{0, 2}}, api.ErrClash},
		{[][2]int{{0, 1}, {0, 2}}, api.ErrDouble},
		{[][2]int{{2, 0}}, api.ErrOrder},
		{[][2]int{{0, 2}, {1, 0}}, api.ErrClash},
		{[][2]int{{0, 2}, {0, 2}}, api.ErrClash},
	} {
		a := rightArguments()
		n, e := beam.CheckPairs(a.Users, frac(1, 3), x.pairs)
		expect(t, "CheckPairs", n, e, 0, x.e)
	}
}

func TestErrorsOfPower(t *testing.T) {
	split := func(a *arguments) *[]int { return &a.Split }
	checkErrors(t, "CheckSplit", panels(), mistakes("split", split, wrongLists(6)))
	checkErrors(t, "CheckSplit", panels(), mistakes("split", split, []wrong[[]int]{{[]int{6, 6}, api.ErrBreak}, {[]int{4, 4, 3}, api.ErrBreak}, {slices.Repeat([]int{1}, 12), api.ErrBreak}}))
	checkErrors(t, "SplitOf", panels(), mistakes("wants", func(a *arguments) *[]int { return &a.Wants }, wrongLists(1000000)))
	down := mistakes("down", func(a *arguments) *int { return &a.Tilt.Down }, wrongInts(-900, 900))
	width := mistakes("width", func(a *arguments) *int { return &a.Tilt.Width }, append(wrongInts(1, 900), wrong[int]{-5, api.ErrRange}))
	most := mistakes("most", func(a *arguments) *int { return &a.Tilt.Most }, wrongInts(0, 400))
	checkErrors(t, "TiltLoss", down, width, most, mistakes("angle", func(a *arguments) *int { return &a.Angle }, wrongInts(-900, 900)))
}
