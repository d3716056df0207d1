package origami_test

import (
	"math/rand"
	"slices"
	"testing"

	"flatland/api"
	"flatland/origami"
)

// P6.1: Check.
func TestCheck(t *testing.T) {
	for what, c := range badOrigamis() {
		want(t, "Check of "+what, origami.Check(c.o), c.e)
	}
	for _, o := range slices.Concat(small(3), splitOrigamis(), []api.Origami{ell(), torus(), grid(60, 7, 1), grid(6, 5, 10), squares(identity(60), identity(60))}) {
		if e := origami.Check(o); e != api.OK {
			t.Errorf("Check of %v: %d", o, e)
		}
	}
	// Of all pairs of lists just the permutations are accepted.
	for _, l := range lists(6, 3) {
		e := api.OK
		if a, b := l[:3], l[3:]; !slices.Equal(sorted(a), identity(3)) || !slices.Equal(sorted(b), identity(3)) {
			e = api.ErrForm
		}
		want(t, "Check of three squares", origami.Check(squares(l[:3], l[3:])), e)
	}
}

// sorted returns the sorted list.
func sorted(l []int) []int { return slices.Sorted(slices.Values(l)) }

// P6.1: Cycles.
func TestCycles(t *testing.T) {
	for _, c := range []struct {
		p []int
		l [][]int
	}{
		{nil, nil},
		{[]int{}, nil},
		{[]int{0}, [][]int{{0}}},
		{[]int{1, 0, 2}, [][]int{{0, 1}, {2}}},
		{[]int{2, 0, 1}, [][]int{{0, 2, 1}}},
		{[]int{4, 3, 2, 0, 1}, [][]int{{0, 4, 1, 3}, {2}}},
		{[]int{0, 5, 1, 3, 2, 4}, [][]int{{0}, {1, 5, 4, 2}, {3}}},
	} {
		l, e := origami.Cycles(c.p)
		wantLists(t, "Cycles", l, e, c.l, api.OK)
	}
	var each [][]int
	for x := range 60 {
		each = append(each, []int{x})
	}
	l, e := origami.Cycles(identity(60))
	wantLists(t, "Cycles of sixty squares", l, e, each, api.OK)
	l, e = origami.Cycles(grid(60, 0, 1).Right)
	wantLists(t, "Cycles of a row", l, e, [][]int{identity(60)}, api.OK)
	r := rand.New(rand.NewSource(1))
	for range 200 {
		p := r.Perm(1 + r.Intn(60))
		l, e := origami.Cycles(p)
		want(t, "Cycles", e, api.OK)
		first, all := -1, 0
		for _, c := range l {
			want(t, "the least one is first", slices.Min(c), c[0])
			want(t, "the cycles ascend", c[0] > first, true)
			first, all = c[0], all+len(c)
			for i, x := range c {
				want(t, "the next one", p[x], c[(i+1)%len(c)])
			}
		}
		want(t, "all elements", all, len(p))
	}
	for _, c := range []struct {
		p []int
		e api.Errno
	}{
		{identity(61), api.ErrLarge}, {make([]int, 61), api.ErrLarge}, {slices.Repeat([]int{-1}, 100), api.ErrLarge},
		{[]int{1}, api.ErrRange}, {[]int{-1, 0}, api.ErrRange}, {[]int{0, 0, 3}, api.ErrRange}, {[]int{most, -most - 1}, api.ErrRange},
		{[]int{0, 0}, api.ErrForm}, {[]int{2, 1, 2}, api.ErrForm}, {make([]int, 60), api.ErrForm},
	} {
		l, e := origami.Cycles(c.p)
		wantLists(t, "Cycles of no permutation", l, e, nil, c.e)
	}
}

// P6.1: Components and Part.
func TestParts(t *testing.T) {
	r := rand.New(rand.NewSource(2))
	list := slices.Concat(small(4), splitOrigamis())
	for range 300 {
		list = append(list, random(r, 1+r.Intn(40)))
	}
	split := 0
	for _, o := range list {
		right := parts(o)
		split += len(right) / 2
		l, e := origami.Components(o)
		wantLists(t, "Components", l, e, right, api.OK)
		for i, p := range right {
			x := squares(nil, nil)
			for _, y := range p {
				x.Right, x.Up = append(x.Right, slices.Index(p, o.Right[y])), append(x.Up, slices.Index(p, o.Up[y]))
			}
			y, e := origami.Part(o, i)
			wantOrigami(t, "Part", y, e, x, api.OK)
		}
		for _, i := range []int{-1, len(right), len(right) + 1, most, -most - 1} {
			x, e := origami.Part(o, i)
			wantOrigami(t, "Part that is not there", x, e, api.Origami{}, api.ErrMissing)
		}
	}
	want(t, "some are split", split > 100, true)
	o := squares([]int{3, 1, 4, 0, 2}, []int{0, 1, 4, 3, 2})
	l, e := origami.Components(o)
	wantLists(t, "Components", l, e, [][]int{{0, 3}, {1}, {2, 4}}, api.OK)
	x, e := origami.Part(o, 2)
	wantOrigami(t, "Part", x, e, squares([]int{1, 0}, []int{1, 0}), api.OK)
	x, e = origami.Part(beside(ell(), torus()), 0)
	wantOrigami(t, "Part", x, e, ell(), api.OK)
}
