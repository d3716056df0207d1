package cylinder_test

import (
	"fmt"
	"math"
	"math/rand"
	"reflect"
	"testing"

	"flatland/api"
	"flatland/cylinder"
	"flatland/field"
)

// question is the arguments of all functions.
type question struct {
	s          api.Surface
	c          api.Slot
	d          api.Vec
	bound, tau api.Num
	l          []api.Ray
	x          api.Decomposition
	i          int
	p          api.Spot
}

func list[T any](x T, e api.Errno) []any { return []any{x, e} }

// calls returns all functions as functions of a question; they return all their results.
func calls() map[string]func(q question) []any {
	return map[string]func(q question) []any{
		"Rays":          func(q question) []any { return list(cylinder.Rays(q.s, q.d)) },
		"Next":          func(q question) []any { return list(cylinder.Next(q.s, q.c, q.d)) },
		"Trace":         func(q question) []any { return list(cylinder.Trace(q.s, q.c, q.d, q.bound)) },
		"Traces":        func(q question) []any { return list(cylinder.Traces(q.s, q.d, q.bound)) },
		"CheckTraces":   func(q question) []any { return []any{cylinder.CheckTraces(q.s, q.d, q.l)} },
		"Left":          func(q question) []any { return list(cylinder.Left(q.s, q.d, q.l)) },
		"Right":         func(q question) []any { return list(cylinder.Right(q.s, q.d, q.l)) },
		"Complete":      func(q question) []any { return list(cylinder.Complete(q.s, q.d, q.bound)) },
		"Decompose":     func(q question) []any { return list(cylinder.Decompose(q.s, q.d, q.bound)) },
		"CheckCylinder": func(q question) []any { return []any{cylinder.CheckCylinder(q.s, q.d, q.x, q.i)} },
		"Locate":        func(q question) []any { return list(cylinder.Locate(q.s, q.d, q.bound, q.p)) },
		"Areas":         func(q question) []any { return list(cylinder.Areas(q.s, q.d, q.bound)) },
		"Moduli":        func(q question) []any { return list(cylinder.Moduli(q.s, q.d, q.bound)) },
		"Twist":         func(q question) []any { return list(cylinder.Twist(q.s, q.d, q.bound)) },
		"Sheared":       func(q question) []any { return list(cylinder.Sheared(q.s, q.d, q.tau)) },
		"Print":         func(q question) []any { return list(cylinder.Print(q.s, q.x)) },
	}
}

// ask returns a question about a surface, whose answers are right.
func ask(t *testing.T, s api.Surface, d api.Vec, bound api.Num, p api.Spot) question {
	t.Helper()
	x, e := cylinder.Decompose(s, d, bound)
	c, f := cylinder.Rays(s, d)
	if e != api.OK || f != api.OK {
		t.Fatalf("Decompose: %d, Rays: %d", e, f)
	}
	return question{s: s, c: c[len(c)-1], d: d, bound: bound, tau: ratio(2, 3), l: x.Rays, x: x, i: len(x.Cylinders) - 1, p: p}
}

// questions returns questions to which most functions have answers.
func questions(t *testing.T) []question {
	_, eight := octagon(t)
	_, five := pentagons(t)
	return []question{
		ask(t, torus(), vec(1, 0), field.Whole(5), spot(0, 1, 4, 1, 3)),
		ask(t, torus(), vec(-2, 3), field.Whole(5), spot(0, 1, 2, 1, 2)),
		ask(t, ell(), vec(1, 0), field.Whole(1), spot(1, 1, 4, 1, 3)),
		ask(t, ell(), vec(2, 1), field.Whole(3), spot(1, 1, 4, 1, 3)),
		ask(t, both(steps(), ell()), vec(1, 0), field.Whole(1), spot(0, 1, 4, 1, 3)),
		ask(t, eight, vec(1, 0), field.Whole(9), spot(0, 1, 1, 1, 1)),
		ask(t, five, five.Faces[0][1], field.Whole(3), spot(0, -1, 9, 1, 9)),
	}
}

// cells notes the arrays of all lists in a value.
func cells(v reflect.Value, found map[uintptr]bool, twice func()) {
	switch v.Kind() {
	case reflect.Slice:
		if v.Cap() > 0 {
			if found[v.Pointer()] {
				twice()
			}
			found[v.Pointer()] = true
		}
		for i := range v.Len() {
			cells(v.Index(i), found, twice)
		}
	case reflect.Struct:
		for i := range v.NumField() {
			cells(v.Field(i), found, twice)
		}
	case reflect.Interface:
		cells(v.Elem(), found, twice)
	}
}

// deep returns a copy that shares no memory.
func deep[T any](x T) T { return deepValue(reflect.ValueOf(&x).Elem()).Interface().(T) }

func deepValue(v reflect.Value) reflect.Value {
	c := reflect.New(v.Type()).Elem()
	switch v.Kind() {
	case reflect.Slice:
		if v.IsNil() {
			return c
		}
		c.Set(reflect.MakeSlice(v.Type(), v.Len(), v.Len()))
		for i := range v.Len() {
			c.Index(i).Set(deepValue(v.Index(i)))
		}
	case reflect.Struct:
		for i := range v.NumField() {
			c.Field(i).Set(deepValue(v.Field(i)))
		}
	default:
		c.Set(v)
	}
	return c
}

// deepQuestion returns a copy of a question that shares no memory.
func deepQuestion(q question) question {
	return question{deep(q.s), q.c, deep(q.d), deep(q.bound), deep(q.tau), deep(q.l), deep(q.x), q.i, deep(q.p)}
}

// untidyQuestion returns the same question with numbers that are not in normal form, but for those of the decomposition if it is to be written.
func untidyQuestion(r *rand.Rand, q question) question {
	poly := q.s.Field.Poly
	return question{untidySurface(r, q.s), q.c, untidyVec(r, q.d, poly), untidy(r, q.bound, poly), untidy(r, q.tau, poly), untidyRays(r, q.l, poly), untidyDecomposition(r, q.x, poly), q.i, api.Spot{Face: q.p.Face, At: untidyVec(r, q.p.At, poly)}}
}

// normal reports whether all numbers in a value are in normal form, T of an open ray being the zero value.
func normal(r *field.Real, v reflect.Value) bool {
	switch x := v.Interface().(type) {
	case api.Num:
		return sameNum(x, r.Normal(x))
	case api.Ray:
		return x.Open && reflect.DeepEqual(x, api.Ray{From: x.From, Open: true}) || !x.Open && normal(r, reflect.ValueOf(x.T))
	}
	switch v.Kind() {
	case reflect.Slice:
		for i := range v.Len() {
			if !normal(r, v.Index(i)) {
				return false
			}
		}
	case reflect.Struct:
		for i := range v.NumField() {
			if !normal(r, v.Field(i)) {
				return false
			}
		}
	}
	return true
}

// R3: arguments are neither changed nor part of results, and no two lists of a result share memory. R4: the results are the same each time. R6: numbers are read by their value, and all Nums of results are in normal form.
func TestMemory(t *testing.T) {
	r := rand.New(rand.NewSource(11))
	answers := map[string]int{}
	for _, tidy := range questions(t) {
		real := open(t, tidy.s.Field, api.OK)
		for _, c := range []question{tidy, untidyQuestion(r, tidy)} {
			for name, call := range calls() {
				q := deepQuestion(c)
				result := call(q)
				if !reflect.DeepEqual(q, deepQuestion(c)) {
					t.Errorf("%s has written into its arguments", name)
				}
				found := map[uintptr]bool{}
				for _, x := range []any{q.s, q.d, q.bound, q.tau, q.l, q.x, q.p} {
					cells(reflect.ValueOf(x), found, func() {})
				}
				cells(reflect.ValueOf(result), found, func() { t.Errorf("%s: lists share memory", name) })
				// As texts nil lists and empty ones are the same.
				if again := call(q); fmt.Sprint(result) != fmt.Sprint(again) {
					t.Errorf("%s: %v, and then %v", name, result, again)
				}
				if first := call(tidy); fmt.Sprint(result) != fmt.Sprint(first) {
					t.Errorf("%s: %v, and with other forms %v", name, first, result)
				}
				if result[len(result)-1] == api.OK {
					answers[name]++
					want(t, name+" has numbers in normal form", normal(real, reflect.ValueOf(result[0])), true)
				}
			}
		}
	}
	for name := range calls() {
		want(t, name+" has answers", answers[name] > 2, true)
	}
}

// R4: two calls do not disturb each other.
func TestAtOnce(t *testing.T) {
	r := rand.New(rand.NewSource(12))
	s := random(r, 8)
	x, _ := cylinder.Decompose(s, vec(2, 1), field.Whole(40))
	done := make(chan api.Decomposition)
	for range 4 {
		go func() {
			y, _ := cylinder.Decompose(s, vec(2, 1), field.Whole(40))
			done <- y
		}()
	}
	for range 4 {
		want(t, "the same decomposition", sameDecomposition(<-done, x), true)
	}
}

// wantError checks that a call returned an error and nothing else.
func wantError(t *testing.T, what string, result []any, e api.Errno) {
	t.Helper()
	last := len(result) - 1
	want(t, what, result[last].(api.Errno), e)
	for _, x := range result[:last] {
		v := reflect.ValueOf(x)
		if !v.IsZero() && !(v.Kind() == reflect.Slice && v.Len() == 0) {
			t.Errorf("%s: %v beside the error", what, x)
		}
	}
}

// R1: the errors of the surface, of the direction, of the corner and of the bound come first, in this order; beside an error there is nothing.
func TestErrorsFirst(t *testing.T) {
	glue := torus()
	glue.Glue[0][0] = slot(0, 0)
	for _, c := range []struct {
		s api.Surface
		e api.Errno
	}{
		{api.Surface{}, api.ErrShape},
		{api.Surface{Field: api.Field{Poly: []int{-4, 0, 1}, Lo: 1, Hi: 2, Den: 1}, Faces: torus().Faces, Glue: torus().Glue}, api.ErrForm},
		{api.Surface{Field: field.Rational()}, api.ErrShape},
		{api.Surface{Field: field.Rational(), Faces: make([][]api.Vec, 501)}, api.ErrLarge},
		{glue, api.ErrGlue},
		{torus(), api.ErrZero},
	} {
		for name, call := range calls() {
			bad := question{s: c.s, c: slot(9, 9), bound: field.Whole(-1), tau: field.Whole(1), p: spot(9, 0, 1, 0, 1), i: -1, l: make([]api.Ray, 9)}
			// No direction; a zero that is not in normal form; and, for surfaces that are wrong, a direction.
			directions := []api.Vec{{}, {X: api.Num{C: []api.Int{{100000000, -1}}, D: []int{0}}}, vec(1, 0)}
			if c.e == api.ErrZero {
				directions = directions[:2]
			}
			for _, bad.d = range directions {
				if name != "Print" || c.e != api.ErrZero {
					wantError(t, name, call(bad), c.e)
				}
			}
		}
	}
	q := question{s: torus(), d: vec(1, 0), c: slot(0, 9), bound: field.Whole(-1), p: spot(9, 0, 1, 0, 1), i: -1, l: make([]api.Ray, 9)}
	for _, c := range badSlots() {
		q.c = c
		for _, name := range []string{"Next", "Trace"} {
			wantError(t, name+" of no corner", calls()[name](q), api.ErrMissing)
		}
	}
	q.c = slot(0, 1)
	for _, name := range []string{"Next", "Trace"} {
		wantError(t, name+" of a corner that does not see the direction", calls()[name](q), api.ErrForm)
	}
	q.c = slot(0, 0)
	for _, bound := range []api.Num{field.Whole(-1), {C: []api.Int{{1}}, D: api.Int{1, -1}}, {C: []api.Int{append(make([]int, 30), -1)}}} {
		q.bound = bound
		for _, name := range []string{"Trace", "Traces", "Complete", "Decompose", "Locate", "Areas", "Moduli", "Twist"} {
			wantError(t, name+" with a negative bound", calls()[name](q), api.ErrRange)
		}
	}
}

// R2: no argument makes a function panic.
func TestNoPanic(t *testing.T) {
	odd := []int{math.MinInt, -1, 0, 1, 3, math.MaxInt}
	surfaces := []api.Surface{{}, torus(), ell(), both(torus(), steps()), {Field: api.Field{Poly: odd, Lo: math.MinInt, Hi: math.MaxInt, Den: math.MinInt}}, {Field: field.Rational(), Faces: make([][]api.Vec, 3), Glue: make([][]api.Slot, 3)}, {Field: field.Rational(), Faces: [][]api.Vec{make([]api.Vec, 3)}, Glue: [][]api.Slot{make([]api.Slot, 3)}}}
	for k, s := range surfaces {
		for i, a := range odd {
			x := api.Num{C: []api.Int{odd, nil, {a}}, D: []int{a}}
			y := api.Num{C: []api.Int{{a, 1}}, D: []int{0, a, 0}}
			for j, b := range []int{math.MaxInt, a, -1} {
				ray := api.Ray{From: slot(a, b), To: slot(b, a), T: y, Open: a > b}
				c := api.Cylinder{Below: []int{a, b}[:i%3], Above: []int{b, a}, T: x, Height: y, Twist: x}
				q := question{s: s, c: slot(a, b), d: api.Vec{X: y, Y: x}, bound: x, tau: x, l: []api.Ray{ray, ray}[:k%3], i: a, p: api.Spot{Face: a, At: api.Vec{X: x, Y: y}}}
				q.x = api.Decomposition{Rays: q.l, Cylinders: []api.Cylinder{c, c}, Rest: y}
				if j > 0 || i%5 > 0 {
					q.d, q.bound = api.Vec{Y: x}, y
				}
				for _, call := range calls() {
					call(q)
				}
				q.c, q.d, q.bound, q.p.Face = slot(0, i%4), vec(1, j), field.Whole(i), j%2
				l, e := cylinder.Traces(s, q.d, q.bound)
				if e == api.OK {
					q.l, q.x.Rays = l, l
				}
				q.i = i % 2
				for _, call := range calls() {
					call(q)
				}
			}
		}
	}
}

// R6: numbers of any size.
func TestLargeNumbers(t *testing.T) {
	far := api.Num{C: []api.Int{append(make([]int, 40), 7)}}
	near := api.Num{C: []api.Int{{1}}, D: append(make([]int, 40), 7)}
	r := open(t, field.Rational(), api.OK)
	x, e := cylinder.Decompose(ell(), api.Vec{X: far}, field.Whole(1))
	small := []api.Ray{closed(0, 2, 1), closed(1, 1, 1), closed(2, 0, 1)}
	for i := range small {
		small[i].T = r.Normal(near)
	}
	twice := r.Add(near, near)
	wantSame(t, "Decompose in a long direction", sameDecomposition, x, e, api.Decomposition{Rays: small, Cylinders: []api.Cylinder{
		{Below: []int{0, 1}, Above: []int{1, 2}, T: twice, Height: r.Normal(far), Twist: r.Normal(near)},
		{Below: []int{2}, Above: []int{0}, T: r.Normal(near), Height: r.Normal(far), Twist: field.Whole(0)},
	}, Rest: field.Whole(0)}, api.OK)
	l, e := cylinder.Traces(ell(), api.Vec{X: near}, r.Sub(far, near))
	want(t, "Traces in a short direction", e, api.OK)
	want(t, "a ray that is almost closed", l[0].Open && l[1].Open && l[2].Open, true)
	b, e := cylinder.Complete(ell(), api.Vec{X: near}, far)
	wantList(t, "Complete in a short direction", []bool{b}, e, []bool{true}, api.OK)
	p, e := cylinder.Locate(ell(), api.Vec{X: far}, far, spot(1, 1, 2, 1, 4))
	wantSame(t, "Locate in a long direction", samePosition, p, e, api.Position{U: r.Mul(ratio(3, 2), near), V: r.Mul(ratio(1, 4), far)}, api.OK)
}
