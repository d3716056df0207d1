package surface_test

import (
	"maps"
	"math/rand"
	"slices"
	"testing"

	"flatland/api"
	"flatland/billiard"
	"flatland/field"
	"flatland/surface"
)

// table returns a table over the fractions, with the whole coordinates x, y, x, y, ..
func table(at ...int) api.Table { return api.Table{Field: field.Rational(), Corners: face(at...)} }

// tables returns tables whose groups are finite, by the sizes of these.
func tables(t *testing.T) map[string]api.Table {
	list := map[string]api.Table{
		"the square":      table(0, 0, 1, 0, 1, 1, 0, 1),
		"half a square":   table(0, 0, 1, 0, 0, 1),
		"an L":            table(0, 0, 2, 0, 2, 1, 1, 1, 1, 2, 0, 2),
		"a blunt square":  table(0, 0, 4, 0, 3, 1, 3, 3, 0, 3),
		"a turned square": table(0, 0, 2, -1, 3, 1, 1, 2),
	}
	f, e := field.Cosine(6)
	r := open(t, f, e)
	list["an equilateral triangle"] = api.Table{Field: f, Corners: []api.Vec{vec(0, 0), vec(2, 0), parsed(t, r, "1", "0,1")}}
	list["half of it"] = api.Table{Field: f, Corners: []api.Vec{vec(0, 0), vec(1, 0), parsed(t, r, "1", "0,1")}}
	f, e = field.Cosine(12)
	r = open(t, f, e)
	list["a thin triangle"] = api.Table{Field: f, Corners: []api.Vec{vec(0, 0), vec(2, 0), parsed(t, r, "1", "0,2,-1")}}
	_, five := pentagons(t)
	p := api.Table{Field: five.Field, Corners: []api.Vec{vec(0, 0)}}
	r = open(t, five.Field, api.OK)
	for i, v := range five.Faces[0][:4] {
		p.Corners = append(p.Corners, r.Sum(p.Corners[i], v))
	}
	list["a pentagon"] = p
	return list
}

func untidyTable(r *rand.Rand, p api.Table) api.Table {
	p = deep(p)
	for i, v := range p.Corners {
		p.Corners[i] = untidyVec(r, v, p.Field.Poly)
	}
	return p
}

// P3.9: example 6.
func TestUnfoldExample(t *testing.T) {
	u, e := surface.Unfold(table(0, 0, 1, 0, 1, 1, 0, 1))
	want(t, "Unfold of the square", e, api.OK)
	wantSame(t, "its surface", sameSurface, u.Surface, e, api.Surface{
		Field: field.Rational(),
		Faces: [][]api.Vec{face(1, 0, 0, 1, -1, 0, 0, -1), face(0, -1, 1, 0, 0, 1, -1, 0), face(0, 1, -1, 0, 0, -1, 1, 0), face(-1, 0, 0, -1, 1, 0, 0, 1)},
		Glue:  [][]api.Slot{partners(1, 3, 2, 2, 1, 1, 2, 0), partners(3, 3, 0, 2, 3, 1, 0, 0), partners(0, 3, 3, 2, 0, 1, 3, 0), partners(2, 3, 1, 2, 2, 1, 1, 0)},
	}, api.OK)
	for k, l := range [][]int{{0, 1, 2, 3}, {3, 2, 1, 0}, {3, 2, 1, 0}, {0, 1, 2, 3}} {
		wantList(t, "its sides", u.Sides[k], e, l, api.OK)
	}
	a, e := surface.Area(u.Surface)
	wantSame(t, "Area", sameNum, a, e, field.Whole(4), api.OK)
	l, e := surface.Angles(u.Surface)
	wantList(t, "Angles", l, e, []int{1, 1, 1, 1}, api.OK)
	g, e := surface.Genus(u.Surface)
	wantList(t, "Genus", []int{g}, e, []int{1}, api.OK)
	l, e = surface.Components(u.Surface)
	wantList(t, "Components", l, e, []int{0, 0, 0, 0}, api.OK)
}

// P3.9: unfoldings, compared with the definition.
func TestUnfold(t *testing.T) {
	r := rand.New(rand.NewSource(19))
	list := tables(t)
	for _, what := range slices.Sorted(maps.Keys(list)) {
		p := list[what]
		q := open(t, p.Field, api.OK)
		u, e := surface.Unfold(untidyTable(r, p))
		want(t, "Unfold of "+what, e, api.OK)
		group, e := billiard.Group(p)
		wantSame(t, "the group of "+what, sameMats, u.Group, e, group, api.OK)
		want(t, "Check of the unfolding of "+what, surface.Check(u.Surface), api.OK)
		want(t, "the faces of "+what, len(u.Surface.Faces), len(group))
		want(t, "the lists of sides of "+what, len(u.Sides), len(group))
		want(t, "the field of "+what, sameField(u.Surface.Field, p.Field), true)
		n := len(p.Corners)
		for k, m := range group {
			det := q.Sub(q.Mul(m.A, m.D), q.Mul(m.B, m.C))
			for e := range n {
				i, unit := e, 1
				if q.Sign(det) < 0 {
					i, unit = n-1-e, -1
				}
				want(t, "a side of "+what, u.Sides[k][e], i)
				v, _ := billiard.Side(p, i)
				wantSame(t, "an edge of "+what, sameVec, u.Surface.Faces[k][e], 0, q.Times(field.Whole(unit), q.Apply(m, v)), 0)
				mirror, _ := billiard.Reflection(p, i)
				to := u.Surface.Glue[k][e]
				want(t, "the side of the partner, of "+what, u.Sides[to.Face][to.Edge], i)
				wantSame(t, "the matrix of the partner, of "+what, sameMat, group[to.Face], 0, q.Product(m, mirror), 0)
			}
		}
		a, _ := billiard.Area(p)
		b, e := surface.Area(u.Surface)
		wantSame(t, "Area of the unfolding of "+what, sameNum, b, e, q.Mul(field.Whole(len(group)), a), api.OK)
	}
}

func sameMat(m, n api.Mat) bool {
	return sameNum(m.A, n.A) && sameNum(m.B, n.B) && sameNum(m.C, n.C) && sameNum(m.D, n.D)
}

func sameMats(a, b []api.Mat) bool { return slices.EqualFunc(a, b, sameMat) }

// P3.9, P3.2: the vertices of known unfoldings.
func TestUnfoldVertices(t *testing.T) {
	list := tables(t)
	for what, angles := range map[string][]int{
		"the square":              {0, 0, 0, 0},
		"half a square":           {0, 0, 0, 0},
		"an L":                    {2, 0, 0, 0, 0, 0, 0, 0, 0, 0, 0},
		"an equilateral triangle": {0, 0, 0},
		"half of it":              {0, 0, 0, 0, 0, 0},
	} {
		u, _ := surface.Unfold(list[what])
		l, e := surface.Stratum(u.Surface)
		if what == "an L" {
			l, angles = l[:1], angles[:1]
		}
		wantList(t, "Stratum of the unfolding of "+what, l, e, angles, api.OK)
	}
	u, _ := surface.Unfold(list["a pentagon"])
	l, e := surface.Stratum(u.Surface)
	wantList(t, "Stratum of the unfolding of a pentagon", l, e, []int{2, 2, 2, 2, 2}, api.OK)
	u, _ = surface.Unfold(list["a thin triangle"])
	l, e = surface.Stratum(u.Surface)
	wantList(t, "Stratum of the unfolding of a thin triangle", l, e, []int{10, 10, 0, 0}, api.OK)
}

// P3.9, P3.11, P2: the straight line on the unfolding, folded back, is the trajectory of the table.
func TestFold(t *testing.T) {
	r := rand.New(rand.NewSource(20))
	corners, steps := 0, 0
	list := tables(t)
	for _, what := range slices.Sorted(maps.Keys(list)) {
		p := list[what]
		u, _ := surface.Unfold(p)
		all := slots(u.Surface)
		for range 100 {
			d := 2 + r.Intn(3)
			c := crossing(all[r.Intn(len(all))], 1+r.Intn(d-1), d, r.Intn(15)-7, r.Intn(15)-7)
			q := open(t, p.Field, api.OK)
			if q.Sign(q.Cross(edge(u.Surface, c.At), c.Dir)) <= 0 {
				s, e := surface.Fold(p, c)
				wantSame(t, "Fold of a crossing to the outside", sameState, s, e, api.State{}, api.ErrForm)
				continue
			}
			s, e := surface.Fold(untidyTable(r, p), untidyCrossing(r, c, p.Field.Poly))
			want(t, "Fold in "+what, e, api.OK)
			want(t, "CheckState in "+what, billiard.CheckState(p, s), api.OK)
			wantSame(t, "the direction in "+what, sameVec, c.Dir, 0, q.Apply(u.Group[c.At.Face], s.Dir), 0)
			line, e := surface.Line(u.Surface, c, 6)
			path, f := billiard.Follow(p, s, 6)
			want(t, "the error of both in "+what, e, f)
			want(t, "the lengths of both in "+what, len(line), len(path))
			for i, x := range line {
				folded, e := surface.Fold(p, x)
				wantSame(t, "Fold of Next in "+what, sameState, folded, e, path[i], api.OK)
				steps++
			}
			if e == api.ErrCorner {
				corners++
			}
		}
	}
	if corners < 20 || steps < 500 {
		t.Errorf("%d steps and %d corners", steps, corners)
	}
}

// P3.9: errors, in their order.
func TestUnfoldErrors(t *testing.T) {
	square := table(0, 0, 1, 0, 1, 1, 0, 1)
	for _, c := range []struct {
		what string
		p    api.Table
		e    api.Errno
	}{
		{"no table", api.Table{}, api.ErrShape},
		{"a bad field", api.Table{Field: api.Field{Poly: []int{-2, 0, 1}, Lo: -2, Hi: 2, Den: 1}}, api.ErrNone},
		{"a clockwise table", table(0, 0, 0, 1, 1, 0), api.ErrForm},
		{"too many corners", table(make([]int, 26)...), api.ErrLarge},
		{"a triangle whose group is not finite", table(0, 0, 4, 0, 0, 3), api.ErrLarge},
	} {
		u, e := surface.Unfold(c.p)
		want(t, "Unfold of "+c.what, e, c.e)
		want(t, "its faces", len(u.Surface.Faces)+len(u.Surface.Glue)+len(u.Surface.Field.Poly)+len(u.Group)+len(u.Sides), 0)
		s, e := surface.Fold(c.p, crossing(slot(9, 9), 2, 1, 0, 0))
		wantSame(t, "Fold in "+c.what, sameState, s, e, api.State{}, c.e)
	}
	for _, c := range []struct {
		what string
		c    api.Crossing
		e    api.Errno
	}{
		{"no face", crossing(slot(4, 0), 2, 1, 0, 0), api.ErrMissing},
		{"no edge", crossing(slot(0, 4), 2, 1, 0, 0), api.ErrMissing},
		{"T 0", crossing(slot(0, 0), 0, 1, 0, 0), api.ErrRange},
		{"T 1", crossing(slot(0, 0), 1, 1, 0, 1), api.ErrRange},
		{"no direction", crossing(slot(0, 0), 1, 2, 0, 0), api.ErrForm},
		{"a direction to the outside", crossing(slot(1, 0), 1, 2, -1, 0), api.ErrForm},
	} {
		s, e := surface.Fold(square, c.c)
		wantSame(t, "Fold with "+c.what, sameState, s, e, api.State{}, c.e)
	}
	for _, at := range badSlots() {
		s, e := surface.Fold(square, crossing(at, 1, 2, 0, 1))
		wantSame(t, "Fold of no slot", sameState, s, e, api.State{}, api.ErrMissing)
	}
	// The next crossing is a corner: the crossing itself is folded all the same.
	s, e := surface.Fold(square, crossing(slot(0, 0), 1, 2, 1, 2))
	wantSame(t, "Fold before a corner", sameState, s, e, api.State{T: ratio(1, 2), Dir: vec(1, 2)}, api.OK)
	s, e = surface.Fold(square, crossing(slot(2, 3), 1, 4, -1, 3))
	wantSame(t, "Fold in a face that is turned over", sameState, s, e, api.State{T: ratio(3, 4), Dir: vec(1, 3)}, api.OK)
}
