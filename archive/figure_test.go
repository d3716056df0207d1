package archive_test

import (
	"fmt"
	"math/big"
	"math/rand"
	"slices"
	"strings"
	"testing"

	"flatland/api"
	"flatland/archive"
	"flatland/billiard"
	"flatland/field"
)

// scaled returns the greatest integer that is at most (a + b w)/d * 2^k, w being the root of 2, in decimal.
func scaled(a, b, d *big.Int, k int) string {
	// b w 2^k is the root of 2 b^2 4^k, with the sign of b: rounded down it is enough for the quotient.
	root := new(big.Int).Mul(b, b)
	root.Lsh(root, uint(2*k+1))
	whole := new(big.Int).Sqrt(root)
	if b.Sign() < 0 {
		whole.Neg(whole)
		whole.Sub(whole, big.NewInt(1))
	}
	whole.Add(whole, new(big.Int).Lsh(a, uint(k)))
	// Euclidean division rounds down, as d is positive.
	return whole.Div(whole, d).String()
}

// bigOf returns the value of an integer of chapter 1.
func bigOf(l []int) *big.Int {
	sum := new(big.Int)
	for _, x := range slices.Backward(l) {
		sum.Mul(sum, big.NewInt(100000000))
		sum.Add(sum, big.NewInt(int64(x)))
	}
	return sum
}

// coordinate writes a number a + b w over d of the field of the root of 2, or of the fractions.
func coordinate(x api.Num, k int) string {
	parts := [2]*big.Int{new(big.Int), new(big.Int)}
	for i, c := range x.C {
		parts[i] = bigOf(c)
	}
	d := bigOf(x.D)
	if d.Sign() == 0 {
		d = big.NewInt(1)
	}
	return scaled(parts[0], parts[1], d, k)
}

// P10.5: tables.
func TestDrawTable(t *testing.T) {
	thin, _ := rootTable()
	half := table(0, 0, 3, 0, 3, 3)
	half.Corners[2].Y = ratio(-7, -2)
	half.Corners[0] = api.Vec{X: ratio(-1, 3), Y: ratio(1, 3)}
	odd := square() // no normal forms, and coordinates that are negative
	odd.Corners[0] = api.Vec{X: api.Num{C: []api.Int{{-5, 0}, nil}, D: []int{0}}, Y: api.Num{C: []api.Int{{-14, 0}}, D: []int{7}}}
	for _, x := range []struct {
		what string
		t    api.Table
		k    int
		want string
	}{
		{"the example", square(), 1, "M 0 0 L 2 0 L 2 2 L 0 2 Z"},
		{"the square", square(), 0, "M 0 0 L 1 0 L 1 1 L 0 1 Z"},
		{"the square, large", square(), 60, "M 0 0 L 1152921504606846976 0 L 1152921504606846976 1152921504606846976 L 0 1152921504606846976 Z"},
		{"fractions", half, 0, "M -1 0 L 3 0 L 3 3 Z"},
		{"fractions, larger", half, 3, "M -3 2 L 24 0 L 24 28 Z"},
		{"roots", thin, 0, "M 0 0 L 1 0 L 1 1 L 0 1 Z"},
		{"roots, larger", thin, 10, "M 0 0 L 1448 0 L 1448 1024 L 0 1024 Z"},
		{"numbers in any form", odd, 2, "M -20 -8 L 4 0 L 4 4 L 0 4 Z"},
	} {
		text, e := archive.DrawTable(x.t, x.k)
		wantText(t, "DrawTable of "+x.what, text, e, x.want, api.OK)
		for k := range 61 {
			text, e := archive.DrawTable(x.t, k)
			var words []string
			for i, c := range x.t.Corners {
				words = append(words, string("ML"[min(i, 1)]), coordinate(c.X, k), coordinate(c.Y, k))
			}
			wantText(t, fmt.Sprintf("DrawTable of %s, k %d", x.what, k), text, e, strings.Join(words, " ")+" Z", api.OK)
		}
	}
}

// P10.5: the errors of tables come before that of the scale.
func TestDrawTableErrors(t *testing.T) {
	for _, k := range []int{-1, 61, most, -most - 1} {
		text, e := archive.DrawTable(square(), k)
		wantText(t, fmt.Sprintf("DrawTable with k %d", k), text, e, "", api.ErrRange)
	}
	noField := square()
	noField.Field = api.Field{Poly: []int{1, -2, 1}, Den: 1}
	large := square()
	large.Corners = make([]api.Vec, 13)
	clockwise := square()
	slices.Reverse(clockwise.Corners)
	for _, x := range []struct {
		what string
		t    api.Table
		e    api.Errno
	}{{"no field", noField, api.ErrForm}, {"nothing", api.Table{}, api.ErrShape}, {"two corners", table(0, 0, 1, 0), api.ErrShape}, {"13 corners", large, api.ErrLarge}, {"clockwise ones", clockwise, api.ErrForm}} {
		for _, k := range []int{1, -1, 61} {
			text, e := archive.DrawTable(x.t, k)
			wantText(t, "DrawTable of "+x.what, text, e, "", x.e)
			text, e = archive.DrawTrajectory(x.t, api.State{Side: 9}, -1, k)
			wantText(t, "DrawTrajectory in "+x.what, text, e, "", x.e)
		}
	}
}

// P10.5: trajectories.
func TestDrawTrajectory(t *testing.T) {
	for n, want := range []string{"M 1 0", "M 1 0 L 2 1", "M 1 0 L 2 1 L 1 2", "M 1 0 L 2 1 L 1 2 L 0 1", "M 1 0 L 2 1 L 1 2 L 0 1 L 1 0"} {
		text, e := archive.DrawTrajectory(square(), slantwise(), n, 1)
		wantText(t, fmt.Sprintf("DrawTrajectory for %d hits", n), text, e, want, api.OK)
	}
	thin, state := rootTable()
	text, e := archive.DrawTrajectory(thin, state, 2, 10)
	wantText(t, "DrawTrajectory with roots", text, e, "M 724 0 L 1448 512 L 724 1024", api.OK)
	r := rand.New(rand.NewSource(6))
	for range 60 {
		p, s := square(), slantwise()
		if r.Intn(2) == 0 {
			p, s = rootTable()
		}
		k, n := r.Intn(61), []int{0, 1, r.Intn(20), 200}[r.Intn(4)]
		s.Side, s.T = r.Intn(4), ratio(1+r.Intn(6), 7)
		s.Dir, _ = billiard.Side(p, (s.Side+1)%4)
		right, e := billiard.Follow(p, s, n)
		want(t, "Follow", e, api.OK)
		var words []string
		for i, at := range slices.Concat([]api.State{s}, right) {
			place, _ := billiard.Place(p, at)
			words = append(words, string("ML"[min(i, 1)]), coordinate(place.X, k), coordinate(place.Y, k))
		}
		text, e := archive.DrawTrajectory(p, s, n, k)
		wantText(t, "DrawTrajectory", text, e, strings.Join(words, " "), api.OK)
	}
}

// P10.5: the errors of trajectories, the first ones first.
func TestDrawTrajectoryErrors(t *testing.T) {
	good, corner := slantwise(), slantwise()
	corner.Dir = vec(1, 2)
	later := slantwise() // the corner is met by the third hit
	later.T, later.Dir = ratio(1, 2), vec(3, 2)
	noSide, atCorner, outside := good, good, good
	noSide.Side, noSide.T = -1, field.Whole(2)
	atCorner.T, atCorner.Dir = field.Whole(0), vec(0, -1)
	outside.Dir = vec(1, 0)
	for _, x := range []struct {
		what string
		s    api.State
		n, k int
		e    api.Errno
	}{
		{"no such side", noSide, -1, -1, api.ErrMissing},
		{"a corner", atCorner, -1, -1, api.ErrRange},
		{"a direction along the side", outside, -1, 61, api.ErrForm},
		{"a scale that is too small", corner, 1, -1, api.ErrRange},
		{"a scale that is too large", corner, 1, 61, api.ErrRange},
		{"the greatest scale", good, 4, most, api.ErrRange},
		{"too few hits", corner, -1, 0, api.ErrRange},
		{"too many hits", corner, 201, 0, api.ErrRange},
		{"a corner that is hit", corner, 1, 0, api.ErrCorner},
		{"a corner that is hit at the end", later, 200, 60, api.ErrCorner},
	} {
		text, e := archive.DrawTrajectory(square(), x.s, x.n, x.k)
		wantText(t, "DrawTrajectory with "+x.what, text, e, "", x.e)
	}
	text, e := archive.DrawTrajectory(square(), corner, 0, 0)
	wantText(t, "DrawTrajectory before the corner", text, e, "M 0 0", api.OK)
}

// P10.5: origamis.
func TestDrawOrigami(t *testing.T) {
	text, e := archive.DrawOrigami(ell())
	wantText(t, "DrawOrigami of the L", text, e, "M 0 0 h 1 v 1 h -1 Z M 1 0 h 1 v 1 h -1 Z\nM 0 1 h 1 v 1 h -1 Z\n", api.OK)
	text, e = archive.DrawOrigami(one())
	wantText(t, "DrawOrigami of a square", text, e, "M 0 0 h 1 v 1 h -1 Z\n", api.OK)
	r := rand.New(rand.NewSource(7))
	for _, n := range []int{1, 2, 3, 10, 60} {
		o := origamiOf(r.Perm(n), r.Perm(n))
		var right string
		seen := map[int]bool{}
		row := 0
		for x := range n {
			place := 0
			for y := x; !seen[y]; y = o.Right[y] {
				if place > 0 {
					right += " "
				}
				right += fmt.Sprintf("M %d %d h 1 v 1 h -1 Z", place, row)
				seen[y] = true
				place++
			}
			if place > 0 {
				right += "\n"
				row++
			}
		}
		text, e := archive.DrawOrigami(o)
		wantText(t, "DrawOrigami", text, e, right, api.OK)
	}
	for what, x := range map[string]struct {
		o api.Origami
		e api.Errno
	}{
		"no squares":        {api.Origami{}, api.ErrShape},
		"other lists":       {origamiOf([]int{5}, nil), api.ErrShape},
		"61 squares":        {origamiOf(make([]int, 61), make([]int, 61)), api.ErrLarge},
		"no such square":    {origamiOf([]int{0, 2}, []int{0, 0}), api.ErrRange},
		"a square twice":    {origamiOf([]int{0, 1}, []int{1, 1}), api.ErrForm},
		"first the Right":   {origamiOf([]int{1, 1}, []int{0, 7}), api.ErrForm},
		"the greatest one":  {origamiOf([]int{most}, []int{0}), api.ErrRange},
		"a negative square": {origamiOf([]int{0}, []int{-1}), api.ErrRange},
	} {
		text, e := archive.DrawOrigami(x.o)
		wantText(t, "DrawOrigami with "+what, text, e, "", x.e)
	}
}
