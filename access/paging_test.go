package access_test

import (
	"fmt"
	"math/rand"
	"slices"
	"testing"

	"downtilt/access"
	"downtilt/api"
)

// examplePaging is that of the chapter's examples.
func examplePaging() api.AccessPaging {
	return api.AccessPaging{Cycle: 32, Frames: 8, Occasions: 2, Offset: 3}
}

func occasion(frame, subframe int) api.AccessOccasion {
	return api.AccessOccasion{Frame: frame, Subframe: subframe}
}

// TestPagingExample is the examples 6 and 7 of the chapter.
func TestPagingExample(t *testing.T) {
	p := examplePaging()
	first, e := access.OccasionOf(p, 13)
	expect(t, "OccasionOf", first, e, occasion(17, 9), api.OK)
	s, e := access.SleepOf(p, 13)
	expect(t, "SleepOf", s, e, api.AccessSleep{Cycle: 320, Start: 179, On: 1}, api.OK)
	for _, x := range []struct {
		at   api.AccessOccasion
		is   bool
		next api.AccessOccasion
	}{
		{occasion(0, 0), false, occasion(17, 9)},
		{occasion(17, 8), false, occasion(17, 9)},
		{occasion(17, 9), true, occasion(17, 9)},
		{occasion(17, 4), false, occasion(17, 9)},
		{occasion(18, 0), false, occasion(49, 9)},
		{occasion(49, 9), true, occasion(49, 9)},
		{occasion(1009, 9), true, occasion(1009, 9)},
		{occasion(1010, 0), false, occasion(17, 9)},
		{occasion(1023, 9), false, occasion(17, 9)},
	} {
		is, e := access.IsOccasion(p, 13, x.at)
		expect(t, fmt.Sprint("IsOccasion ", x.at), is, e, x.is, api.OK)
		next, e := access.NextOccasion(p, 13, x.at)
		expect(t, fmt.Sprint("NextOccasion ", x.at), next, e, x.next, api.OK)
	}
}

// TestSubframes is of phones of each number of occasions: they take them in turn.
func TestSubframes(t *testing.T) {
	for occasions, want := range map[int][]int{1: {9, 9, 9, 9, 9}, 2: {4, 9, 4, 9, 4}, 4: {0, 4, 5, 9, 0}} {
		for _, frames := range []int{1, 4, 16} {
			p := api.AccessPaging{Cycle: 16, Frames: frames, Occasions: occasions}
			for n, subframe := range want {
				x, e := access.OccasionOf(p, n*frames)
				expect(t, fmt.Sprintf("OccasionOf %v of the phone %d", p, n*frames), x, e, occasion(0, subframe), api.OK)
				x, e = access.OccasionOf(p, n*frames+frames-1)
				expect(t, fmt.Sprintf("OccasionOf %v of the phone %d", p, n*frames+frames-1), x, e, occasion((frames-1)*16/frames, subframe), api.OK)
			}
		}
	}
}

// TestEachFrame is of the cycle 1, which pages in each frame.
func TestEachFrame(t *testing.T) {
	p := api.AccessPaging{Cycle: 1, Frames: 1, Occasions: 4}
	for phone, subframe := range []int{0, 4, 5, 9, 0} {
		for frame := range 1024 {
			is, e := access.IsOccasion(p, phone, occasion(frame, subframe))
			expect(t, "IsOccasion", is, e, true, api.OK)
			next, e := access.NextOccasion(p, phone, occasion(frame, 6))
			want := occasion(frame, subframe)
			if subframe < 6 {
				want.Frame = (frame + 1) % 1024
			}
			expect(t, "NextOccasion", next, e, want, api.OK)
		}
	}
}

// TestRightPaging is of all cycles, numbers of frames and of occasions; all other numbers are wrong.
func TestRightPaging(t *testing.T) {
	powers := []int{1, 2, 4, 8, 16, 32, 64, 128, 256}
	for cycle := range 258 {
		for frames := range 258 {
			want := api.OK
			switch {
			case cycle < 1 || cycle > 256:
				want = api.ErrRange
			case !slices.Contains(powers, cycle):
				want = api.ErrForm
			case frames < 1 || frames > cycle:
				want = api.ErrRange
			case !slices.Contains(powers, frames):
				want = api.ErrForm
			}
			for occasions, isRight := range []bool{false, true, true, false, true, false} {
				for _, offset := range []int{0, cycle - 1} {
					f := want
					if f == api.OK && !isRight {
						f = api.ErrKind
					}
					e := access.CheckPaging(api.AccessPaging{Cycle: cycle, Frames: frames, Occasions: occasions, Offset: offset})
					expect(t, fmt.Sprint("CheckPaging ", cycle, frames, occasions, offset), e, e, f, f)
				}
			}
		}
	}
}

// slowOccasions looks at each frame and each subframe.
func slowOccasions(p api.AccessPaging, phone int) []api.AccessOccasion {
	subframes := map[int][]int{1: {9}, 2: {4, 9}, 4: {0, 4, 5, 9}}[p.Occasions]
	var l []api.AccessOccasion
	for frame := range 1024 {
		if (frame+p.Offset)%p.Cycle == p.Cycle/p.Frames*(phone%p.Frames) {
			l = append(l, occasion(frame, subframes[phone/p.Frames%p.Occasions]))
		}
	}
	return l
}

func isAhead(a, b api.AccessOccasion) bool {
	return a.Frame < b.Frame || a.Frame == b.Frame && a.Subframe < b.Subframe
}

// TestOccasions compares with slowOccasions; it is P7.11 too.
func TestOccasions(t *testing.T) {
	r := rand.New(rand.NewSource(78))
	seen := map[bool]int{}
	for range 1000 {
		p, phone := randomPaging(r), upTo(r, []int{3, 100, 1000000}[r.Intn(3)])
		all := slowOccasions(p, phone)
		first, e := access.OccasionOf(p, phone)
		expect(t, fmt.Sprint("OccasionOf ", p, phone), first, e, all[0], api.OK)
		if len(all) != 1024/p.Cycle || first.Frame >= p.Cycle {
			t.Errorf("%v: the occasions %v", p, all)
		}
		sleep, e := access.SleepOf(p, phone)
		expect(t, fmt.Sprint("SleepOf ", p, phone), sleep, e, api.AccessSleep{Cycle: 10 * p.Cycle, Start: 10*all[0].Frame + all[0].Subframe, On: 1}, api.OK)
		for range 60 {
			at := nearOccasion(r, all[r.Intn(len(all))])
			isOne := slices.Contains(all, at)
			is, e := access.IsOccasion(p, phone, at)
			expect(t, fmt.Sprint("IsOccasion ", p, phone, at), is, e, isOne, api.OK)
			isOn, e := access.AwakeAt(sleep, at.Frame*10+at.Subframe, api.AccessNone)
			expect(t, fmt.Sprint("AwakeAt ", sleep, at), isOn, e, isOne, api.OK)
			want := all[0]
			if i := slices.IndexFunc(all, func(x api.AccessOccasion) bool { return !isAhead(x, at) }); i >= 0 {
				want = all[i]
			}
			next, e := access.NextOccasion(p, phone, at)
			expect(t, fmt.Sprint("NextOccasion ", p, phone, at), next, e, want, api.OK)
			seen[is]++
		}
	}
	if seen[true] < 1000 || seen[false] < 1000 {
		t.Errorf("seen %v", seen)
	}
}

// nearOccasion is often an occasion, or one soon ahead of it or behind it.
func nearOccasion(r *rand.Rand, x api.AccessOccasion) api.AccessOccasion {
	switch r.Intn(4) {
	case 0:
		return randomOccasion(r)
	case 1:
		x.Frame = (x.Frame + 1023 + r.Intn(3)) % 1024
	case 2:
		x.Subframe = []int{0, 4, 5, 9, r.Intn(10)}[r.Intn(5)]
	}
	return x
}

// TestTogether looks at all occasions of two phones.
func TestTogether(t *testing.T) {
	r := rand.New(rand.NewSource(79))
	seen := map[bool]int{}
	for range 2000 {
		p := randomPaging(r)
		a, b := upTo(r, 1000000), upTo(r, 1000000)
		if r.Intn(2) == 0 {
			b = min(1000000, a+p.Frames*r.Intn(5))
		}
		want := slices.Equal(slowOccasions(p, a), slowOccasions(p, b))
		got, e := access.Together(p, a, b)
		expect(t, fmt.Sprint("Together ", p, a, b), got, e, want, api.OK)
		seen[got]++
	}
	if seen[true] < 300 || seen[false] < 300 {
		t.Errorf("seen %v", seen)
	}
	for _, x := range []struct {
		a, b int
		want bool
	}{{13, 13, true}, {13, 29, true}, {13, 21, false}, {13, 14, false}, {0, 1000000, true}, {8, 1000000, false}} {
		got, e := access.Together(examplePaging(), x.a, x.b)
		expect(t, fmt.Sprint("Together ", x.a, x.b), got, e, x.want, api.OK)
	}
}
