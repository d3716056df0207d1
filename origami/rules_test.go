package origami_test

import (
	"fmt"
	"math/rand"
	"reflect"
	"testing"

	"flatland/api"
	"flatland/origami"
)

// question is the arguments of all functions.
type question struct {
	o, b    api.Origami
	f       []int
	i, p, q int
	marked  bool
	s       api.Surface
	text    string
}

func list[T any](x T, e api.Errno) []any { return []any{x, e} }

func two[T, U any](x T, y U, e api.Errno) []any { return []any{x, y, e} }

// ofAll returns the functions with an origami that need not be connected, as functions of a question; they return all their results.
func ofAll() map[string]func(q question) []any {
	return map[string]func(q question) []any{
		"Check":            func(q question) []any { return []any{origami.Check(q.o)} },
		"Components":       func(q question) []any { return list(origami.Components(q.o)) },
		"Part":             func(q question) []any { return list(origami.Part(q.o, q.i)) },
		"CheckIsomorphism": func(q question) []any { return []any{origami.CheckIsomorphism(q.o, q.o, q.f)} },
		"CheckCovering":    func(q question) []any { return []any{origami.CheckCovering(q.o, q.b, q.f)} },
		"Commutator":       func(q question) []any { return list(origami.Commutator(q.o)) },
		"Vertices":         func(q question) []any { return list(origami.Vertices(q.o)) },
		"Cylinders":        func(q question) []any { return list(origami.Cylinders(q.o, q.marked)) },
		"Toward":           func(q question) []any { return list(origami.Toward(q.o, q.p, q.q)) },
		"Saddles":          func(q question) []any { return list(origami.Saddles(q.o)) },
		"Fixed": func(q question) []any {
			x, y, z, e := origami.Fixed(q.o, q.f)
			return []any{x, y, z, e}
		},
		"Surface": func(q question) []any { return list(origami.Surface(q.o)) },
		"Print":   func(q question) []any { return list(origami.Print(q.o)) },
	}
}

// ofConnected returns the functions with an origami that has to be connected.
func ofConnected() map[string]func(q question) []any {
	return map[string]func(q question) []any{
		"Label":         func(q question) []any { return two(origami.Label(q.o)) },
		"Isomorphism":   func(q question) []any { return list(origami.Isomorphism(q.o, q.b)) },
		"Automorphisms": func(q question) []any { return list(origami.Automorphisms(q.o)) },
		"Quotient":      func(q question) []any { return two(origami.Quotient(q.o)) },
		"Covering":      func(q question) []any { return list(origami.Covering(q.o, q.b)) },
		"Stratum":       func(q question) []any { return list(origami.Stratum(q.o)) },
		"Genus":         func(q question) []any { return list(origami.Genus(q.o)) },
		"Periods":       func(q question) []any { return list(origami.Periods(q.o)) },
		"HalfTurns":     func(q question) []any { return list(origami.HalfTurns(q.o)) },
	}
}

// ofTwo returns the functions with two origamis.
func ofTwo() map[string]func(q question) []any {
	return map[string]func(q question) []any{
		"Isomorphism":      func(q question) []any { return list(origami.Isomorphism(q.o, q.b)) },
		"CheckIsomorphism": func(q question) []any { return []any{origami.CheckIsomorphism(q.o, q.b, q.f)} },
		"Covering":         func(q question) []any { return list(origami.Covering(q.o, q.b)) },
		"CheckCovering":    func(q question) []any { return []any{origami.CheckCovering(q.o, q.b, q.f)} },
	}
}

// calls returns all functions.
func calls() map[string]func(q question) []any {
	all := map[string]func(q question) []any{
		"Cycles":      func(q question) []any { return list(origami.Cycles(q.o.Right)) },
		"FromSurface": func(q question) []any { return list(origami.FromSurface(q.s)) },
		"Parse":       func(q question) []any { return list(origami.Parse(q.text)) },
	}
	for name, call := range ofAll() {
		all[name] = call
	}
	for name, call := range ofConnected() {
		all[name] = call
	}
	return all
}

// ask returns a question about a connected origami to which all functions have answers.
func ask(t *testing.T, o api.Origami) question {
	l, e := origami.HalfTurns(o)
	if e != api.OK || len(l) == 0 {
		t.Fatalf("%v has no half turn", o)
	}
	f := l[len(l)-1]
	// A half turn is an isomorphism to what is turned.
	return question{o: o, b: turnedBy180(o), f: f, p: 2, q: -3, s: mustSurface(t, o), text: textOf(o)}
}

func questions(t *testing.T) []question {
	r := rand.New(rand.NewSource(27))
	return []question{ask(t, ell()), ask(t, torus()), ask(t, grid(6, 5, 10)), ask(t, renumbered(divided(ell(), 2, 3), r.Perm(18))), ask(t, squares([]int{1, 2, 3, 0, 4, 5}, []int{4, 5, 2, 3, 0, 1}))}
}

// cells notes the arrays of all lists in a value.
func cells(v reflect.Value, found map[uintptr]bool, twice func()) {
	switch v.Kind() {
	case reflect.Slice:
		if v.Cap() > 0 {
			if found[v.Pointer()] {
				twice()
			}
			found[v.Pointer()] = true
		}
		for i := range v.Len() {
			cells(v.Index(i), found, twice)
		}
	case reflect.Struct:
		for i := range v.NumField() {
			cells(v.Field(i), found, twice)
		}
	case reflect.Interface:
		cells(v.Elem(), found, twice)
	}
}

// deep returns a copy that shares no memory.
func deep[T any](x T) T { return deepValue(reflect.ValueOf(&x).Elem()).Interface().(T) }

func deepValue(v reflect.Value) reflect.Value {
	c := reflect.New(v.Type()).Elem()
	switch v.Kind() {
	case reflect.Slice:
		if v.IsNil() {
			return c
		}
		c.Set(reflect.MakeSlice(v.Type(), v.Len(), v.Len()))
		for i := range v.Len() {
			c.Index(i).Set(deepValue(v.Index(i)))
		}
	case reflect.Struct:
		for i := range v.NumField() {
			c.Field(i).Set(deepValue(v.Field(i)))
		}
	default:
		c.Set(v)
	}
	return c
}

// deepQuestion returns a copy of a question that shares no memory.
func deepQuestion(q question) question {
	return question{deep(q.o), deep(q.b), deep(q.f), q.i, q.p, q.q, q.marked, deep(q.s), q.text}
}

// R3: arguments are neither changed nor part of results, and no two lists of a result share memory. R4: the results are the same each time.
func TestMemory(t *testing.T) {
	answers := map[string]int{}
	for _, c := range questions(t) {
		for name, call := range calls() {
			for _, c.marked = range []bool{false, true} {
				for _, d := range [][2]int{{1, 0}, {-1, 0}, {0, 1}, {2, -3}} {
					c.p, c.q = d[0], d[1]
					q := deepQuestion(c)
					result := call(q)
					if !reflect.DeepEqual(q, deepQuestion(c)) {
						t.Errorf("%s has written into its arguments", name)
					}
					found := map[uintptr]bool{}
					for _, x := range []any{q.o, q.b, q.f, q.s} {
						cells(reflect.ValueOf(x), found, func() {})
					}
					cells(reflect.ValueOf(result), found, func() { t.Errorf("%s: lists share memory", name) })
					if again := call(q); fmt.Sprint(result) != fmt.Sprint(again) {
						t.Errorf("%s: %v, and then %v", name, result, again)
					}
					if result[len(result)-1] == api.OK {
						answers[name]++
					}
				}
			}
		}
	}
	for name := range calls() {
		want(t, name+" has answers", answers[name] > 3, true)
	}
}

// R4: two calls do not disturb each other.
func TestAtOnce(t *testing.T) {
	o := renumbered(divided(ell(), 5, 4), rand.New(rand.NewSource(28)).Perm(60))
	right := leastNumbered(o)
	done := make(chan pair)
	for range 4 {
		go func() {
			x, f, _ := origami.Label(o)
			done <- pair{x, f}
		}()
	}
	for range 4 {
		want(t, "the same label", samePair(<-done, right), true)
	}
}

// wantError checks that a call returned an error and nothing else.
func wantError(t *testing.T, what string, result []any, e api.Errno) {
	t.Helper()
	last := len(result) - 1
	want(t, what, result[last].(api.Errno), e)
	for _, x := range result[:last] {
		v := reflect.ValueOf(x)
		if !v.IsZero() && !(v.Kind() == reflect.Slice && v.Len() == 0) {
			t.Errorf("%s: %v beside the error", what, x)
		}
	}
}

// bad returns a question with other arguments that are all wrong.
func bad(o, b api.Origami) question {
	return question{o: o, b: b, f: []int{-1, 99}, i: -1, p: 2000, q: 2000}
}

// R1: the errors of the first origami come first, then those of the second one, then that of origamis that are not connected; beside an error there is nothing.
func TestErrorsFirst(t *testing.T) {
	split := splitOrigamis()[0]
	for what, c := range badOrigamis() {
		for name, call := range ofAll() {
			wantError(t, name+" with "+what, call(bad(c.o, split)), c.e)
		}
		for name, call := range ofConnected() {
			wantError(t, name+" with "+what, call(bad(c.o, split)), c.e)
		}
		for name, call := range ofTwo() {
			wantError(t, name+" with "+what+" first", call(bad(c.o, ell())), c.e)
			wantError(t, name+" with "+what+" second", call(bad(ell(), c.o)), c.e)
			wantError(t, name+" with "+what+" second, and a first one that is not connected", call(bad(split, c.o)), c.e)
			for other, d := range badOrigamis() {
				wantError(t, name+" with "+what+" and "+other, call(bad(c.o, d.o)), c.e)
			}
		}
	}
	for _, o := range splitOrigamis() {
		for name, call := range ofConnected() {
			wantError(t, name+" of what is not connected", call(bad(o, ell())), api.ErrSplit)
		}
		for _, name := range []string{"Isomorphism", "Covering"} {
			wantError(t, name+" to what is not connected", calls()[name](bad(ell(), o)), api.ErrSplit)
			wantError(t, name+" of two that are not connected", calls()[name](bad(o, o)), api.ErrSplit)
		}
		// All other functions have answers.
		q := question{o: o, b: o, f: identity(len(o.Right)), p: 1}
		for name, call := range ofAll() {
			if result := call(q); name != "Fixed" {
				want(t, name+" of what is not connected", result[len(result)-1].(api.Errno), api.OK)
			}
		}
	}
	for _, name := range []string{"Part", "Toward", "Fixed", "CheckCovering", "CheckIsomorphism"} {
		e := map[string]api.Errno{"Part": api.ErrMissing, "Toward": api.ErrRange}[name]
		if e == api.OK {
			e = api.ErrShape
		}
		wantError(t, name+" with other errors", calls()[name](bad(ell(), ell())), e)
	}
}

// R5: a nil list and an empty one are the same.
func TestNil(t *testing.T) {
	for _, o := range []api.Origami{{}, {Right: []int{}}, {Up: []int{}}, {Right: []int{}, Up: []int{}}} {
		want(t, "Check of no squares", origami.Check(o), api.ErrShape)
		l, e := origami.Components(o)
		wantLists(t, "Components of no squares", l, e, nil, api.ErrShape)
	}
	for _, f := range [][]int{nil, {}} {
		want(t, "CheckCovering of no squares", origami.CheckCovering(torus(), torus(), f), api.ErrShape)
		l, e := origami.Cycles(f)
		wantLists(t, "Cycles of no squares", l, e, nil, api.OK)
		_, _, _, e = origami.Fixed(torus(), f)
		want(t, "Fixed of no squares", e, api.ErrShape)
	}
	o, e := origami.FromSurface(api.Surface{Faces: [][]api.Vec{}, Glue: [][]api.Slot{}})
	wantOrigami(t, "FromSurface of nothing", o, e, api.Origami{}, api.ErrShape)
}

// R2: no argument makes a function panic.
func TestNoPanic(t *testing.T) {
	odd := []int{-most - 1, -1, 0, 1, 2, 3, 1000, most}
	lists := [][]int{nil, {}, {0}, {0, 1}, {1, 0}, {2, 0, 1}, {0, 1, 2}, {1, 1}, odd, {most, -most - 1}, identity(60), identity(61), make([]int, 100)}
	r := rand.New(rand.NewSource(29))
	number := func() int { return odd[r.Intn(len(odd))] }
	some := func() []int { return lists[r.Intn(len(lists))] }
	for range 5000 {
		q := question{o: squares(some(), some()), b: squares(some(), some()), f: some(), i: number(), p: number(), q: number(), marked: r.Intn(2) == 0}
		if r.Intn(2) == 0 {
			q.b = q.o
		}
		q.text = textOf(q.o)[r.Intn(4):] + string(rune(r.Intn(300)))
		q.s = api.Surface{Field: api.Field{Poly: some(), Lo: number(), Hi: number(), Den: number()}}
		if s, e := origami.Surface(q.o); e == api.OK {
			f, k := r.Intn(len(s.Faces)), r.Intn(4)
			s.Faces[f][k].X = api.Num{C: []api.Int{some()}, D: some()}
			s.Glue[f][k] = api.Slot{Face: number(), Edge: number()}
			q.s = s
		}
		for _, call := range calls() {
			call(q)
		}
	}
	for range 2000 {
		b := make([]byte, r.Intn(40))
		for i := range b {
			b[i] = "right up\n0123 -"[r.Intn(15)]
		}
		origami.Parse(string(b))
	}
}
