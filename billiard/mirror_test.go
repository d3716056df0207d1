package billiard_test

import (
	"math"
	"math/rand"
	"slices"
	"testing"

	"flatland/api"
	"flatland/billiard"
	"flatland/field"
)

// matOf returns the matrix of a linear map.
func matOf(f func(v point) point) api.Mat {
	x, y := f(point{whole(1), whole(0)}).vec(), f(point{whole(0), whole(1)}).vec()
	return api.Mat{A: x.X, B: y.X, C: x.Y, D: y.Y}
}

// linear returns the map that reflects in the sides of a code, one after another.
func (g ring) linear(code []int) api.Mat {
	return matOf(func(v point) point {
		for _, i := range code {
			v = mirrored(g.side(i), v)
		}
		return v
	})
}

// randomCode returns a code of n sides.
func randomCode(r *rand.Rand, sides, n int) []int {
	code := make([]int, n)
	for k := range code {
		code[k] = r.Intn(sides)
	}
	return code
}

// P2.3: reflections and their products, compared with the definition.
func TestLinear(t *testing.T) {
	r := rand.New(rand.NewSource(6))
	for range 60 {
		p := randomPolygon(r, 3+r.Intn(7))
		q, g := untidyTable(r, p), points(p)
		for i := range p.Corners {
			m, e := billiard.Reflection(q, i)
			wantSame(t, "Reflection", sameMat, m, e, g.linear([]int{i}), api.OK)
		}
		code := randomCode(r, len(p.Corners), r.Intn(6))
		m, e := billiard.Linear(q, code)
		wantSame(t, "Linear", sameMat, m, e, g.linear(code), api.OK)
	}
	m, e := billiard.Linear(triangle(), nil)
	wantSame(t, "Linear of the empty code", sameMat, m, e, mat(1, 0, 0, 1), api.OK)
	m, e = billiard.Linear(square(), slices.Repeat([]int{0, 1}, 100))
	wantSame(t, "Linear of a long code", sameMat, m, e, mat(1, 0, 0, 1), api.OK)
	for _, i := range []int{-1, 4, math.MinInt, math.MaxInt} {
		m, e := billiard.Reflection(square(), i)
		wantSame(t, "Reflection in no side", sameMat, m, e, api.Mat{}, api.ErrMissing)
	}
}

// P2.3, P2.4, P2.7: the error of a code.
func TestCodeErrors(t *testing.T) {
	for _, c := range []struct {
		what string
		p    api.Table
		code []int
		e    api.Errno
	}{
		{"200 sides", square(), slices.Repeat([]int{0, 1}, 100), api.OK},
		{"201 sides", square(), slices.Repeat([]int{3}, 201), api.ErrLarge},
		{"201 elements that are no sides", square(), slices.Repeat([]int{4}, 201), api.ErrLarge},
		{"no side", square(), []int{0, 4}, api.ErrMissing},
		{"a negative side", square(), []int{-1}, api.ErrMissing},
		{"the least side", square(), []int{1, math.MinInt}, api.ErrMissing},
		{"a bad table", polygon(0, 0), []int{9}, api.ErrShape},
		{"a bad table, and a long code", polygon(0, 0, 0, 1, 1, 0), make([]int, 201), api.ErrForm},
	} {
		_, e := billiard.Linear(c.p, c.code)
		want(t, "Linear with "+c.what, e, c.e)
		moves, e := billiard.Copies(c.p, c.code)
		want(t, "Copies with "+c.what, e, c.e)
		if c.e == api.OK {
			want(t, "the number of copies with "+c.what, len(moves), len(c.code)+1)
		} else {
			want(t, "the number of copies with "+c.what, len(moves), 0)
			s, e := billiard.Periodic(c.p, c.code)
			wantSame(t, "Periodic with "+c.what, sameState, s, e, api.State{}, c.e)
		}
	}
}

// P2.3: groups of linear parts.
func TestGroup(t *testing.T) {
	group, e := billiard.Group(square())
	wantSame(t, "Group of the square", sameMats, group, e, []api.Mat{mat(1, 0, 0, 1), mat(1, 0, 0, -1), mat(-1, 0, 0, 1), mat(-1, 0, 0, -1)}, api.OK)
	// With a diagonal the group has eight elements: sides 0 and 2 are the first to reflect, then side 1.
	group, e = billiard.Group(polygon(0, 0, 1, 0, 0, 1))
	wantSame(t, "Group of half a square", sameMats, group, e, []api.Mat{mat(1, 0, 0, 1), mat(1, 0, 0, -1), mat(0, -1, -1, 0), mat(-1, 0, 0, 1), mat(0, 1, -1, 0), mat(-1, 0, 0, -1), mat(0, -1, 1, 0), mat(0, 1, 1, 0)}, api.OK)
	group, e = billiard.Group(triangle())
	wantSame(t, "Group of the triangle", sameMats, group, e, nil, api.ErrLarge)
	group, e = billiard.Group(polygon(0, 0, 0, 1, 1, 0))
	wantSame(t, "Group of no table", sameMats, group, e, nil, api.ErrForm)
	_, p := kite(t)
	_, e = billiard.Group(p)
	want(t, "Group of the kite", e, api.ErrLarge)
}

func sameMats(a, b []api.Mat) bool { return slices.EqualFunc(a, b, sameMat) }

// sliver returns a triangle with two angles of a 24th of half a turn: its group has just as many elements as there may be.
func sliver(t *testing.T) (*field.Real, api.Table) {
	f, e := field.Cosine(12)
	r := open(t, f, e)
	tan := api.Num{C: []api.Int{nil, {2}, {-1}}, D: []int{1}}
	return r, api.Table{Field: f, Corners: []api.Vec{vec(0, 0), vec(2, 0), {X: field.Whole(1), Y: tan}}}
}

// P2.3, P2.9: finite groups are closed, and in the order that the chapter states.
func TestGroupOrder(t *testing.T) {
	r5, five := pentagon(t)
	r24, thin := sliver(t)
	q := open(t, field.Rational(), api.OK)
	for _, c := range []struct {
		r *field.Real
		p api.Table
		n int
	}{{r5, five, 10}, {r24, thin, 48}, {q, angle(), 4}, {q, polygon(0, 0, 4, 0, 3, 1, 3, 3, 0, 3), 8}} {
		group, e := billiard.Group(c.p)
		want(t, "Group", e, api.OK)
		want(t, "the size of the group", len(group), c.n)
		list := []api.Mat{mat(1, 0, 0, 1)}
		for k := 0; k < len(list); k++ {
			for i := range c.p.Corners {
				m, _ := billiard.Reflection(c.p, i)
				m = c.r.Product(m, list[k])
				if !slices.ContainsFunc(list, func(n api.Mat) bool { return sameMat(m, n) }) {
					list = append(list, m)
				}
			}
		}
		wantSame(t, "Group", sameMats, group, e, list, api.OK)
		for _, m := range group {
			for _, n := range group {
				if !slices.ContainsFunc(group, func(g api.Mat) bool { return sameMat(g, c.r.Product(m, n)) }) {
					t.Errorf("the group is not closed")
				}
			}
		}
	}
}

// P2.4: example 4.
func TestCopiesExample(t *testing.T) {
	moves, e := billiard.Copies(square(), []int{1, 2})
	wantSame(t, "Copies of the square", sameMoves, moves, e, []api.Move{
		{Linear: mat(1, 0, 0, 1), Shift: vec(0, 0)}, {Linear: mat(-1, 0, 0, 1), Shift: vec(2, 0)}, {Linear: mat(-1, 0, 0, -1), Shift: vec(2, 2)},
	}, api.OK)
	moves, e = billiard.Copies(square(), nil)
	wantSame(t, "Copies along the empty code", sameMoves, moves, e, []api.Move{{Linear: mat(1, 0, 0, 1), Shift: vec(0, 0)}}, api.OK)
}

func sameMoves(a, b []api.Move) bool { return slices.EqualFunc(a, b, sameMove) }

// P2.4: copies over the fractions, compared with the definition.
func TestCopiesRandom(t *testing.T) {
	r := rand.New(rand.NewSource(7))
	q := open(t, field.Rational(), api.OK)
	for range 60 {
		p := randomPolygon(r, 3+r.Intn(7))
		code := randomCode(r, len(p.Corners), r.Intn(7))
		moves, e := billiard.Copies(untidyTable(r, p), code)
		list := points(p).copies(code)
		want(t, "Copies", e, api.OK)
		want(t, "the number of copies", len(moves), len(list))
		for k, m := range moves {
			for i, v := range p.Corners {
				wantSame(t, "a corner of a copy", sameVec, q.Sum(q.Apply(m.Linear, v), m.Shift), 0, list[k][i].vec(), 0)
			}
		}
	}
}

// P2.4: the unrolled trajectory over the fractions, compared with the definition.
func TestUnrolledRandom(t *testing.T) {
	r := rand.New(rand.NewSource(8))
	for range 80 {
		p := randomPolygon(r, 3+r.Intn(7))
		g, s := points(p), randomState(r, p)
		m := g.movingOf(s)
		list := []api.Vec{m.at.vec()}
		var code []int
		var f api.Errno
		for range 5 {
			next, ok := g.next(m)
			if !ok {
				list, f = nil, api.ErrCorner
				break
			}
			m = next
			code = append(code, m.side)
			h := g.copies(code)[len(code)]
			on := rat(g.stateOf(m).T)
			list = append(list, h.place(m.side, on).vec())
		}
		places, e := billiard.Unrolled(untidyTable(r, p), untidyState(r, s, p.Field.Poly), 5)
		wantSame(t, "Unrolled in"+text(p), sameVecs, places, e, list, f)
	}
}

func sameVecs(a, b []api.Vec) bool { return slices.EqualFunc(a, b, sameVec) }

// P2.4: the number of hits, and corners.
func TestUnrolledErrors(t *testing.T) {
	places, e := billiard.Unrolled(square(), state(0, 1, 2, 1, 1), 0)
	wantSame(t, "Unrolled without hits", sameVecs, places, e, []api.Vec{{X: ratio(1, 2), Y: ratio(0, 1)}}, api.OK)
	places, e = billiard.Unrolled(square(), state(0, 1, 2, 1, 4), 1)
	wantSame(t, "Unrolled before a corner", sameVecs, places, e, []api.Vec{{X: ratio(1, 2), Y: ratio(0, 1)}, {X: ratio(3, 4), Y: ratio(1, 1)}}, api.OK)
	places, e = billiard.Unrolled(square(), state(0, 1, 2, 1, 4), 2)
	wantSame(t, "Unrolled to a corner", sameVecs, places, e, nil, api.ErrCorner)
	for _, n := range []int{-1, 201, math.MinInt, math.MaxInt} {
		places, e = billiard.Unrolled(square(), state(0, 1, 2, 1, 2), n)
		wantSame(t, "Unrolled beyond the bound", sameVecs, places, e, nil, api.ErrRange)
		_, e = billiard.Unrolled(square(), state(0, 1, 2, 0, -1), n)
		want(t, "Unrolled of no state", e, api.ErrForm)
	}
	places, e = billiard.Unrolled(square(), state(0, 1, 2, 1, 1), 200)
	want(t, "Unrolled with 200 hits", e, api.OK)
	want(t, "its length", len(places), 201)
}

// P2.9: the places lie on a ray, each one further than the one before; the direction after n hits is that of Linear.
func TestStraight(t *testing.T) {
	r, p := pentagon(t)
	r2, four := kite(t)
	r24, thin := sliver(t)
	for _, c := range []struct {
		r *field.Real
		p api.Table
		s api.State
	}{{r, p, state(1, 2, 5, 1, -3)}, {r, p, state(3, 1, 7, 0, 1)}, {r2, four, state(0, 1, 5, 1, 2)}, {r2, four, state(3, 2, 3, -1, -3)}, {r24, thin, state(0, 1, 3, 1, 9)}} {
		const n = 25
		states, e := billiard.Follow(c.p, c.s, n)
		want(t, "Follow", e, api.OK)
		places, e := billiard.Unrolled(c.p, c.s, n)
		want(t, "Unrolled", e, api.OK)
		code, _ := billiard.Code(c.p, c.s, n)
		far := field.Whole(0)
		for k, v := range places[1:] {
			way := c.r.Sum(v, c.r.Times(field.Whole(-1), places[0]))
			wantSame(t, "the place on the ray", sameNum, c.r.Cross(way, c.s.Dir), 0, field.Whole(0), 0)
			now := c.r.Add(c.r.Mul(way.X, c.s.Dir.X), c.r.Mul(way.Y, c.s.Dir.Y))
			want(t, "each place is further", c.r.Cmp(now, far), 1)
			far = now
			m, e := billiard.Linear(c.p, code[:k+1])
			wantSame(t, "Dir after some hits", sameVec, states[k].Dir, e, c.r.Apply(m, c.s.Dir), api.OK)
		}
	}
}
