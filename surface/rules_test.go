package surface_test

import (
	"fmt"
	"math"
	"math/rand"
	"reflect"
	"testing"

	"flatland/api"
	"flatland/field"
	"flatland/surface"
)

// question is the arguments of all functions.
type question struct {
	s, other api.Surface
	m        api.Mat
	at, to   api.Slot
	match    []api.Slot
	c        api.Crossing
	n        int
	square   api.Num
	p        api.Table
}

func list[T any](x T, e api.Errno) []any { return []any{x, e} }

// calls returns all functions but Parse, as functions of a question; they return all their results.
func calls() map[string]func(q question) []any {
	return map[string]func(q question) []any{
		"Check":       func(q question) []any { return []any{surface.Check(q.s)} },
		"Area":        func(q question) []any { return list(surface.Area(q.s)) },
		"Components":  func(q question) []any { return list(surface.Components(q.s)) },
		"Vertices":    func(q question) []any { return list(surface.Vertices(q.s)) },
		"Angles":      func(q question) []any { return list(surface.Angles(q.s)) },
		"Stratum":     func(q question) []any { return list(surface.Stratum(q.s)) },
		"Genus":       func(q question) []any { return list(surface.Genus(q.s)) },
		"Triangulate": func(q question) []any { return list(surface.Triangulate(q.s)) },
		"Flip":        func(q question) []any { return list(surface.Flip(q.s, q.at)) },
		"IsDelaunay":  func(q question) []any { return list(surface.IsDelaunay(q.s)) },
		"Delaunay":    func(q question) []any { return list(surface.Delaunay(q.s)) },
		"Cells":       func(q question) []any { return list(surface.Cells(q.s)) },
		"Label":       func(q question) []any { return list(surface.Label(q.s)) },
		"Match":       func(q question) []any { return list(surface.Match(q.s, q.other)) },
		"CheckMatch":  func(q question) []any { return []any{surface.CheckMatch(q.s, q.other, q.match)} },
		"Apply":       func(q question) []any { return list(surface.Apply(q.s, q.m)) },
		"Cut":         func(q question) []any { return list(surface.Cut(q.s, q.at, q.to)) },
		"Join":        func(q question) []any { return list(surface.Join(q.s, q.at)) },
		"Next":        func(q question) []any { return list(surface.Next(q.s, q.c)) },
		"Line":        func(q question) []any { return list(surface.Line(q.s, q.c, q.n)) },
		"Segments":    func(q question) []any { return list(surface.Segments(q.s, q.square)) },
		"Unfold":      func(q question) []any { return list(surface.Unfold(q.p)) },
		"Fold":        func(q question) []any { return list(surface.Fold(q.p, q.c)) },
		"Print":       func(q question) []any { return list(surface.Print(q.s)) },
	}
}

// questions returns questions to which most functions have answers.
func questions(t *testing.T) []question {
	r, eight := octagon(t)
	_, five := pentagons(t)
	w := api.Num{C: []api.Int{nil, {1}}, D: []int{1}}
	table := table(0, 0, 1, 0, 1, 1, 0, 1)
	thin := tables(t)["an equilateral triangle"]
	base := question{m: mat(1, 1, 0, 1), at: slot(0, 0), to: slot(0, 2), match: partners(0, 0), c: crossing(slot(0, 0), 1, 2, 1, 3), n: 3, square: field.Whole(3), p: table}
	list := []question{base, base, base, base, base, base}
	list[0].s, list[0].other = torus(), torus()
	list[1].s, list[1].other, list[1].to = ell(), ell(), slot(0, 4)
	list[2].s, list[2].other, list[2].match = cutTorus(), cutTorus(), partners(0, 0, 1, 0)
	list[3].s, list[3].other, list[3].m = eight, eight, api.Mat{A: w, B: field.Whole(1), C: field.Whole(1), D: w}
	list[4].s, list[4].other, list[4].match, list[4].c.Dir = five, five, partners(1, 0, 0, 0), vec(-5, 1)
	d, _ := surface.Triangulate(eight)
	list[5].s, list[5].other, list[5].p = d, d, thin
	list[5].c = api.Crossing{At: slot(0, 1), T: ratio(1, 3), Dir: r.Times(field.Whole(-1), edge(d, slot(0, 0)))}
	return list
}

// cells notes the arrays of all lists in a value.
func cells(v reflect.Value, found map[uintptr]bool, twice func()) {
	switch v.Kind() {
	case reflect.Slice:
		if v.Cap() > 0 {
			if found[v.Pointer()] {
				twice()
			}
			found[v.Pointer()] = true
		}
		for i := range v.Len() {
			cells(v.Index(i), found, twice)
		}
	case reflect.Struct:
		for i := range v.NumField() {
			cells(v.Field(i), found, twice)
		}
	case reflect.Interface:
		cells(v.Elem(), found, twice)
	}
}

// deep returns a copy that shares no memory.
func deep[T any](x T) T { return deepValue(reflect.ValueOf(&x).Elem()).Interface().(T) }

func deepValue(v reflect.Value) reflect.Value {
	c := reflect.New(v.Type()).Elem()
	switch v.Kind() {
	case reflect.Slice:
		if v.IsNil() {
			return c
		}
		c.Set(reflect.MakeSlice(v.Type(), v.Len(), v.Len()))
		for i := range v.Len() {
			c.Index(i).Set(deepValue(v.Index(i)))
		}
	case reflect.Struct:
		for i := range v.NumField() {
			// Only exported fields can be copied one by one.
			if !v.Type().Field(i).IsExported() {
				c.Set(v)
				return c
			}
			c.Field(i).Set(deepValue(v.Field(i)))
		}
	default:
		c.Set(v)
	}
	return c
}

// deepQuestion returns a copy of a question that shares no memory.
func deepQuestion(q question) question {
	return question{deep(q.s), deep(q.other), deep(q.m), q.at, q.to, deep(q.match), deep(q.c), q.n, deep(q.square), deep(q.p)}
}

// untidyQuestion returns the same question with numbers that are not in normal form.
func untidyQuestion(r *rand.Rand, q question) question {
	poly := q.s.Field.Poly
	q.s, q.other, q.p, q.c = untidySurface(r, q.s), untidySurface(r, q.other), untidyTable(r, q.p), untidyCrossing(r, q.c, poly)
	u, v := untidyVec(r, api.Vec{X: q.m.A, Y: q.m.B}, poly), untidyVec(r, api.Vec{X: q.m.C, Y: q.m.D}, poly)
	q.m, q.square = api.Mat{A: u.X, B: u.Y, C: v.X, D: v.Y}, untidy(r, q.square, poly)
	return q
}

// R3: arguments are neither changed nor part of results, and no two lists of a result share memory. R4: the results are the same each time. R6: numbers are read by their value, and all Nums of results are in normal form.
func TestMemory(t *testing.T) {
	r := rand.New(rand.NewSource(22))
	answers := map[string]int{}
	for _, tidy := range questions(t) {
		for _, c := range []question{tidy, untidyQuestion(r, tidy)} {
			for name, call := range calls() {
				if (name == "Fold" || name == "Unfold") && !sameField(tidy.p.Field, tidy.s.Field) {
					c.c, c.p = tidy.c, tidy.p
				}
				q := deepQuestion(c)
				result := call(q)
				if !reflect.DeepEqual(q, deepQuestion(c)) {
					t.Errorf("%s has written into its arguments", name)
				}
				found := map[uintptr]bool{}
				for _, x := range []any{q.s, q.other, q.m, q.match, q.c, q.square, q.p} {
					cells(reflect.ValueOf(x), found, func() {})
				}
				cells(reflect.ValueOf(result), found, func() { t.Errorf("%s: lists share memory", name) })
				// As texts nil lists and empty ones are the same.
				if again := call(q); fmt.Sprint(result) != fmt.Sprint(again) {
					t.Errorf("%s: %v, and then %v", name, result, again)
				}
				if first := call(tidy); fmt.Sprint(result) != fmt.Sprint(first) {
					t.Errorf("%s: %v, and with other forms %v", name, first, result)
				}
				if result[len(result)-1] == api.OK {
					answers[name]++
				}
			}
		}
	}
	for name := range calls() {
		want(t, name+" has answers", answers[name] > 0, true)
	}
	s, _, _ := surface.Parse(torusText)
	cells(reflect.ValueOf(s), map[uintptr]bool{}, func() { t.Errorf("Parse: lists share memory") })
}

// R4: two calls do not disturb each other.
func TestAtOnce(t *testing.T) {
	r := rand.New(rand.NewSource(23))
	s := random(r, 8)
	l, _ := surface.Label(s)
	done := make(chan string)
	for range 4 {
		go func() {
			k, _ := surface.Label(s)
			done <- k
		}()
	}
	for range 4 {
		want(t, "Label", <-done, l)
	}
}

// R1: the error of the surface is the first one; beside an error there is nothing, unless the chapter says so.
func TestErrorsFirst(t *testing.T) {
	bad := question{at: slot(-1, 9), to: slot(7, 7), match: partners(4, 4), c: crossing(slot(9, 9), 2, 1, 0, 0), n: -1, square: field.Whole(-1), other: api.Surface{Field: field.Rational()}}
	for _, c := range []struct {
		s api.Surface
		e api.Errno
	}{
		{api.Surface{Field: api.Field{Poly: []int{-4, 0, 1}, Lo: 1, Hi: 2, Den: 1}}, api.ErrForm},
		{api.Surface{Field: field.Rational(), Faces: make([][]api.Vec, 501)}, api.ErrLarge},
		{changedTorus(func(s *api.Surface) { s.Glue = nil }), api.ErrShape},
		{changedTorus(func(s *api.Surface) { s.Glue[0][0] = slot(1, 0) }), api.ErrMissing},
		{changedTorus(func(s *api.Surface) { s.Glue[0][0] = slot(0, 0) }), api.ErrGlue},
	} {
		for name, call := range calls() {
			if name == "Unfold" || name == "Fold" {
				continue
			}
			q := bad
			q.s = c.s
			wantError(t, name, call(q), c.e)
			if name == "Match" || name == "CheckMatch" {
				q.s, q.other = both(torus(), torus()), c.s
				wantError(t, name, call(q), c.e)
			}
		}
	}
}

// wantError checks that a call returned an error and nothing else.
func wantError(t *testing.T, what string, result []any, e api.Errno) {
	t.Helper()
	last := len(result) - 1
	want(t, what, result[last].(api.Errno), e)
	for _, x := range result[:last] {
		v := reflect.ValueOf(x)
		if !v.IsZero() && !(v.Kind() == reflect.Slice && v.Len() == 0) {
			t.Errorf("%s: %v beside the error", what, x)
		}
	}
}

// R2: no argument makes a function panic.
func TestNoPanic(t *testing.T) {
	odd := []int{math.MinInt, -1, 0, 1, 3, math.MaxInt}
	surfaces := []api.Surface{{}, torus(), ell(), cutTorus(), both(torus(), cutTorus()), {Field: api.Field{Poly: odd, Lo: math.MinInt, Hi: math.MaxInt, Den: math.MinInt}}, {Field: field.Rational(), Faces: make([][]api.Vec, 3), Glue: make([][]api.Slot, 3)}, {Field: field.Rational(), Faces: [][]api.Vec{make([]api.Vec, 3)}, Glue: [][]api.Slot{make([]api.Slot, 3)}}}
	for _, a := range odd {
		x := api.Num{C: []api.Int{odd, nil, {a}}, D: []int{a}}
		y := api.Num{C: []api.Int{{a, 1}}, D: []int{0, a, 0}}
		s := torus()
		s.Faces[0][a&3] = api.Vec{X: x, Y: y}
		s.Glue[0][a&1] = slot(a, 1)
		surfaces = append(surfaces, s)
		for k, s := range surfaces {
			for i, b := range odd {
				q := question{s: s, other: surfaces[(i+len(s.Faces))%len(surfaces)], m: api.Mat{A: x, B: y, C: y, D: x}, at: slot(a, b), to: slot(b, a), match: partners(a, b, b, a)[:1+i%2], c: api.Crossing{At: slot(0, b), T: x, Dir: api.Vec{X: y, Y: x}}, n: a, square: y, p: api.Table{Field: s.Field, Corners: face(0, 0, 1, 0, 1, 1, 0, 1)}}
				if i == 0 && k == 1 {
					q.p.Corners = []api.Vec{{}, {X: x}, {X: x, Y: y}, {Y: x}}
				}
				for _, call := range calls() {
					call(q)
				}
				q.c.At, q.c.T, q.at, q.to = slot(0, i%4), ratio(1, 3), slot(0, i%4), slot(0, a&3)
				for _, call := range calls() {
					call(q)
				}
			}
		}
	}
	for _, s := range []string{"surface", "surface \nface", "surface 0,1 0 0 1\nface / /\n", "surface 0,1 0 0 1\nglue , ,\n", "\x00\xff\n", "surface 0,1 0 0 1\nface 1/0 0\n", "surface 99999999999999999999,1 0 0 1\n"} {
		_, _, e := surface.Parse(s)
		want(t, "Parse of "+s, e, api.ErrSyntax)
	}
}

// R6: numbers of any size.
func TestLargeNumbers(t *testing.T) {
	far := api.Num{C: []api.Int{append(make([]int, 40), 7)}}
	near := api.Num{C: []api.Int{{1}}, D: append(make([]int, 40), 7)}
	r := open(t, field.Rational(), api.OK)
	s, e := surface.Apply(ell(), api.Mat{A: far, D: near})
	want(t, "Apply of large numbers", e, api.OK)
	a, e := surface.Area(s)
	wantSame(t, "Area", sameNum, a, e, field.Whole(3), api.OK)
	l, e := surface.Angles(s)
	wantList(t, "Angles", l, e, []int{3}, api.OK)
	c, e := surface.Next(s, api.Crossing{At: slot(0, 0), T: ratio(1, 2), Dir: api.Vec{X: far, Y: near}})
	wantSame(t, "Next", sameCrossing, c, e, api.Crossing{At: slot(0, 1), T: ratio(1, 2), Dir: r.Times(field.Whole(1), api.Vec{X: far, Y: near})}, api.OK)
	x, e := surface.Label(s)
	want(t, "Label", e, api.OK)
	s, _ = surface.Triangulate(s)
	y, e := surface.Label(s)
	wantList(t, "Label of triangles", []string{y}, e, []string{x}, api.OK)
	// The short sides are the only segments up to their length.
	m, e := surface.Segments(s, r.Mul(near, near))
	want(t, "Segments", e, api.OK)
	want(t, "their number", len(m), 6)
	for _, x := range m {
		want(t, "a short side", sameVec(x.Vector, r.Times(near, vec(0, 1))) || sameVec(x.Vector, r.Times(near, vec(0, -1))), true)
	}
}
