package billiard_test

import (
	"math"
	"math/rand"
	"slices"
	"testing"

	"flatland/api"
	"flatland/billiard"
	"flatland/field"
)

// P2.1: the errors of tables.
func TestCheck(t *testing.T) {
	bad := api.Field{Poly: []int{-2, 0, 1}, Lo: -2, Hi: 2, Den: 1}
	many := polygon(0, 0, 2, -1, 4, -1, 6, 0, 7, 2, 7, 4, 6, 6, 4, 7, 2, 7, 0, 6, -1, 4, -1, 2)
	more := api.Table{Field: many.Field, Corners: slices.Insert(slices.Clone(many.Corners), 1, vec(1, 0))}
	for _, c := range []struct {
		what string
		p    api.Table
		e    api.Errno
	}{
		{"a square", square(), api.OK},
		{"a triangle", triangle(), api.OK},
		{"an L", angle(), api.OK},
		{"a cave", cave(), api.OK},
		{"twelve corners", many, api.OK},
		{"no table", api.Table{}, api.ErrShape},
		{"a field with two roots, and no corners", api.Table{Field: bad}, api.ErrNone},
		{"a field that is a square", api.Table{Field: api.Field{Poly: []int{1, -2, 1}, Hi: 2, Den: 1}, Corners: square().Corners}, api.ErrForm},
		{"a field with the wrong order", api.Table{Field: api.Field{Poly: []int{-2, 0, 1}, Lo: 2, Hi: 1, Den: 1}, Corners: more.Corners}, api.ErrOrder},
		{"a field with the denominator 0", api.Table{Field: api.Field{Poly: []int{0, 1}}}, api.ErrRange},
		{"no corners", polygon(), api.ErrShape},
		{"two corners", polygon(0, 0, 1, 0), api.ErrShape},
		{"thirteen corners", more, api.ErrLarge},
		{"thirteen corners in one point", polygon(make([]int, 26)...), api.ErrLarge},
		{"clockwise", polygon(0, 0, 0, 1, 1, 1, 1, 0), api.ErrForm},
		{"a clockwise triangle", polygon(0, 0, 0, 3, 4, 0), api.ErrForm},
		{"three corners on a line", polygon(0, 0, 1, 1, 2, 2), api.ErrForm},
		{"a straight corner", polygon(0, 0, 1, 0, 2, 0, 2, 2), api.ErrForm},
		{"a straight corner 0", polygon(1, 0, 2, 0, 2, 2, 0, 2, 0, 0), api.ErrForm},
		{"a straight last corner", polygon(2, 0, 2, 2, 0, 2, 0, 0, 1, 0), api.ErrForm},
		{"a side that goes back", polygon(0, 0, 4, 0, 4, 4, 4, 1, 0, 4), api.ErrForm},
		{"a zero side", polygon(0, 0, 1, 0, 1, 0, 1, 1), api.ErrForm},
		{"one point", polygon(0, 0, 0, 0, 0, 0), api.ErrForm},
		{"sides that cross", polygon(0, 0, 4, 0, 0, 4, 4, 5), api.ErrForm},
		{"sides that cross, of positive area", polygon(0, 0, 9, 0, 9, 9, 8, -1, 0, 9), api.ErrForm},
		{"a corner on a side", polygon(0, 0, 4, 0, 4, 4, 2, 0, 0, 4), api.ErrForm},
		{"a corner on a corner", polygon(0, 0, 2, 0, 1, 1, 2, 2, 0, 2, 1, 1), api.ErrForm},
		{"two sides on one line that overlap", polygon(0, 0, 3, 0, 3, 1, 1, 1, 1, 0, 2, 0, 2, 3, 0, 3), api.ErrForm},
		{"a side within another one", polygon(0, 0, 4, 0, 4, 4, 3, 0, 1, 0, 0, 4), api.ErrForm},
		{"two sides on one line", polygon(0, 0, 1, 0, 1, 1, 2, 1, 2, 0, 3, 0, 3, 3, 0, 3), api.OK},
		{"two turns", polygon(0, 0, 5, 0, 5, 5, 0, 5, 1, 1, 4, 1, 4, 4, 1, 4), api.ErrForm},
	} {
		want(t, "Check of "+c.what, billiard.Check(c.p), c.e)
	}
}

// P2.1: tables over the fractions, compared with the definition.
func TestCheckRandom(t *testing.T) {
	r := rand.New(rand.NewSource(1))
	valid := 0
	for range 3000 {
		n := 3 + r.Intn(4)
		var at []int
		for range 2 * n {
			at = append(at, r.Intn(6))
		}
		p := polygon(at...)
		e := api.ErrForm
		if points(p).isSimple() {
			e = api.OK
			valid++
		}
		want(t, "Check of "+text(p), billiard.Check(p), e)
		want(t, "Check, untidy, of "+text(p), billiard.Check(untidyTable(r, p)), e)
	}
	if valid < 300 {
		t.Errorf("only %d of the tables are valid", valid)
	}
}

// text returns a name for a table in messages.
func text(p api.Table) string {
	s := ""
	for _, v := range p.Corners {
		s += " " + rat(v.X).RatString() + "," + rat(v.Y).RatString()
	}
	return s
}

// P2.1: areas and sides.
func TestAreaAndSide(t *testing.T) {
	r := rand.New(rand.NewSource(2))
	a, e := billiard.Area(triangle())
	wantSame(t, "Area of the triangle", sameNum, a, e, field.Whole(6), api.OK)
	a, e = billiard.Area(polygon(0, 0, 1, 0, 0, 1))
	wantSame(t, "Area of half a square", sameNum, a, e, ratio(1, 2), api.OK)
	for range 30 {
		p := randomPolygon(r, 3+r.Intn(8))
		q := untidyTable(r, p)
		a, e := billiard.Area(q)
		wantSame(t, "Area", sameNum, a, e, numOf(points(p).area()), api.OK)
		for i := range p.Corners {
			v, e := billiard.Side(q, i)
			wantSame(t, "Side", sameVec, v, e, points(p).side(i).vec(), api.OK)
		}
	}
	for _, i := range []int{-1, 4, math.MinInt, math.MaxInt} {
		v, e := billiard.Side(square(), i)
		wantSame(t, "Side that is not there", sameVec, v, e, api.Vec{}, api.ErrMissing)
	}
	_, p := kite(t)
	a, e = billiard.Area(p)
	wantSame(t, "Area of the kite", sameNum, a, e, api.Num{C: []api.Int{{2}, {1}}, D: []int{2}}, api.OK)
}
