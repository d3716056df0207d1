package orbit_test

import (
	"fmt"
	"math/rand"
	"reflect"
	"testing"

	"flatland/api"
	"flatland/orbit"
)

// question is the arguments of all functions.
type question struct {
	o, b     api.Origami
	w        string
	m, n     api.Unit
	x        api.Orbit
	from, to int
}

func list[T any](x T, e api.Errno) []any { return []any{x, e} }

// ofWords returns the functions with words and matrices alone, as functions of a question; they return all their results.
func ofWords() map[string]func(q question) []any {
	return map[string]func(q question) []any{
		"CheckWord": func(q question) []any { return []any{orbit.CheckWord(q.w)} },
		"Matrix":    func(q question) []any { return list(orbit.Matrix(q.w)) },
		"Word":      func(q question) []any { return list(orbit.Word(q.m)) },
		"Times":     func(q question) []any { return list(orbit.Times(q.m, q.n)) },
		"Inverse":   func(q question) []any { return list(orbit.Inverse(q.m)) },
	}
}

// ofOrigamis returns the functions with an origami.
func ofOrigamis() map[string]func(q question) []any {
	return map[string]func(q question) []any{
		"Act":        func(q question) []any { return list(orbit.Act(q.o, q.w)) },
		"Apply":      func(q question) []any { return list(orbit.Apply(q.o, q.m)) },
		"Enumerate":  func(q question) []any { return list(orbit.Enumerate(q.o)) },
		"Index":      func(q question) []any { return list(orbit.Index(q.o)) },
		"HasMinus":   func(q question) []any { return list(orbit.HasMinus(q.o)) },
		"Generators": func(q question) []any { return list(orbit.Generators(q.o)) },
		"Contains":   func(q question) []any { return list(orbit.Contains(q.o, q.m)) },
		"Connect":    func(q question) []any { return list(orbit.Connect(q.o, q.b)) },
		"Lyapunov":   func(q question) []any { return list(orbit.Lyapunov(q.o)) },
	}
}

// ofOrbits returns the functions with an orbit.
func ofOrbits() map[string]func(q question) []any {
	return map[string]func(q question) []any{
		"CheckOrbit": func(q question) []any { return []any{orbit.CheckOrbit(q.x)} },
		"Cusps":      func(q question) []any { return list(orbit.Cusps(q.x)) },
		"Elliptic": func(q question) []any {
			two, three, e := orbit.Elliptic(q.x)
			return []any{two, three, e}
		},
		"Genus": func(q question) []any { return list(orbit.Genus(q.x)) },
		"Level": func(q question) []any { return list(orbit.Level(q.x)) },
		"Reach": func(q question) []any { return list(orbit.Reach(q.x, q.from, q.to)) },
		"Mean":  func(q question) []any { return list(orbit.Mean(q.x)) },
	}
}

// calls returns all functions.
func calls() map[string]func(q question) []any {
	all := map[string]func(q question) []any{}
	for _, some := range []map[string]func(q question) []any{ofWords(), ofOrigamis(), ofOrbits()} {
		for name, call := range some {
			all[name] = call
		}
	}
	return all
}

// questions returns questions to which all functions have answers.
func questions(t *testing.T) []question {
	var all []question
	for _, o := range append(oneSided(), ell(), torus(), long(3, 4), grid(6, 1, 2), quaternions()) {
		x := orbitOf(t, o)
		last := len(x.Labels) - 1
		for _, w := range []string{"", "S", "T", "sTtS"} {
			all = append(all, question{o: o, b: x.Labels[last], w: w, m: unit(3, 2, 1, 1), n: unit(0, -1, 1, 0), x: x, to: last})
		}
	}
	return all
}

// cells notes the arrays of all lists in a value.
func cells(v reflect.Value, found map[uintptr]bool, twice func()) {
	switch v.Kind() {
	case reflect.Slice:
		if v.Cap() > 0 {
			if found[v.Pointer()] {
				twice()
			}
			found[v.Pointer()] = true
		}
		for i := range v.Len() {
			cells(v.Index(i), found, twice)
		}
	case reflect.Struct:
		for i := range v.NumField() {
			cells(v.Field(i), found, twice)
		}
	case reflect.Interface:
		cells(v.Elem(), found, twice)
	}
}

// deep returns a copy of a question that shares no memory.
func deep(q question) question {
	both := copied(api.Orbit{Labels: []api.Origami{q.o, q.b}})
	q.o, q.b, q.x = both.Labels[0], both.Labels[1], copied(q.x)
	return q
}

// R3: arguments are neither changed nor part of results, and no two lists of a result share memory. R4: the results are the same each time.
func TestMemory(t *testing.T) {
	for _, c := range questions(t) {
		for name, call := range calls() {
			q := deep(c)
			result := call(q)
			if !reflect.DeepEqual(q, deep(c)) {
				t.Errorf("%s has written into its arguments", name)
			}
			found := map[uintptr]bool{}
			for _, x := range []any{q.o, q.b, q.x} {
				cells(reflect.ValueOf(x), found, func() {})
			}
			cells(reflect.ValueOf(result), found, func() { t.Errorf("%s: lists share memory", name) })
			if again := call(q); fmt.Sprint(result) != fmt.Sprint(again) {
				t.Errorf("%s: %v, and then %v", name, result, again)
			}
			want(t, name+" has an answer", result[len(result)-1].(api.Errno), api.OK)
		}
	}
}

// R4: two calls do not disturb each other.
func TestAtOnce(t *testing.T) {
	right := orbitBy(long(4, 3))
	done := make(chan api.Orbit)
	for range 4 {
		go func() {
			x, _ := orbit.Enumerate(long(4, 3))
			done <- x
		}()
	}
	for range 4 {
		want(t, "the same orbit", sameOrbit(<-done, right), true)
	}
}

// wantError checks that a call returned an error and nothing else.
func wantError(t *testing.T, what string, result []any, e api.Errno) {
	t.Helper()
	last := len(result) - 1
	want(t, what, result[last].(api.Errno), e)
	for _, x := range result[:last] {
		v := reflect.ValueOf(x)
		if !v.IsZero() && !(v.Kind() == reflect.Slice && v.Len() == 0) {
			t.Errorf("%s: %v beside the error", what, x)
		}
	}
}

// bad returns a question with other arguments that are all wrong.
func bad(o, b api.Origami, x api.Orbit) question {
	return question{o: o, b: b, w: "x", m: unit(2, 0, 0, 1), n: unit(1, 0, 0, -1), x: x, from: -1, to: 99}
}

// R1: the errors of origamis come first, then those of what is not connected, then those of words and units; beside an error there is nothing.
func TestErrorsFirst(t *testing.T) {
	split := splitOrigamis()[0]
	for what, c := range badOrigamis() {
		for name, call := range ofOrigamis() {
			wantError(t, name+" with "+what, call(bad(c.o, split, api.Orbit{})), c.e)
		}
		for other, d := range badOrigamis() {
			wantError(t, "Connect with "+what+" and "+other, calls()["Connect"](bad(c.o, d.o, api.Orbit{})), c.e)
		}
		wantError(t, "Connect with "+what+" second", calls()["Connect"](bad(ell(), c.o, api.Orbit{})), c.e)
		wantError(t, "Connect with "+what+" second, and a first one that is not connected", calls()["Connect"](bad(split, c.o, api.Orbit{})), c.e)
		wantError(t, "Connect with "+what+" second, and a large first one", calls()["Connect"](bad(long(30, 31), c.o, api.Orbit{})), c.e)
	}
	for _, o := range splitOrigamis() {
		for name, call := range ofOrigamis() {
			e := api.ErrSplit
			if name == "Act" {
				e = api.ErrSyntax
			}
			wantError(t, name+" of what is not connected", call(bad(o, ell(), api.Orbit{})), e)
		}
		wantError(t, "Connect to what is not connected", calls()["Connect"](bad(ell(), o, api.Orbit{})), api.ErrSplit)
		wantError(t, "Connect of a large one to what is not connected", calls()["Connect"](bad(long(30, 31), o, api.Orbit{})), api.ErrSplit)
	}
	for name, call := range ofWords() {
		e := api.ErrForm
		if name == "CheckWord" || name == "Matrix" {
			e = api.ErrSyntax
		}
		wantError(t, name, call(bad(ell(), ell(), api.Orbit{})), e)
	}
}

// R1: the errors of orbits come first, then those of the other arguments.
func TestOrbitErrorsFirst(t *testing.T) {
	for what, c := range map[string]struct {
		change func(x *api.Orbit)
		e      api.Errno
	}{
		"nothing in it": {func(x *api.Orbit) { *x = api.Orbit{} }, api.ErrShape},
		"a wrong label": {func(x *api.Orbit) { x.Labels[1] = squares([]int{0, 1, 3}, []int{0, 1, 2}) }, api.ErrRange},
		"no label":      {func(x *api.Orbit) { x.Labels[0] = ell() }, api.ErrForm},
		"S out":         {func(x *api.Orbit) { x.S[1] = 3 }, api.ErrRange},
		"T wrong":       {func(x *api.Orbit) { x.T = identity(3) }, api.ErrProof},
	} {
		for name, call := range ofOrbits() {
			wantError(t, name+" of an orbit with "+what, call(bad(ell(), ell(), changed(ellOrbit(), c.change))), c.e)
		}
	}
	wantError(t, "Reach", calls()["Reach"](bad(ell(), ell(), ellOrbit())), api.ErrMissing)
	// The labels of an orbit of more than 20 squares are checked before their number.
	x := orbitOf(t, grid(23, 0, 1))
	wantError(t, "Mean of an orbit", calls()["Mean"](question{x: x}), api.ErrLarge)
	wantError(t, "Mean of no orbit", calls()["Mean"](question{x: changed(x, func(x *api.Orbit) { x.T = x.S })}), api.ErrProof)
}

// R5: a nil list and an empty one are the same.
func TestNil(t *testing.T) {
	for _, o := range []api.Origami{{}, {Right: []int{}}, {Up: []int{}}, {Right: []int{}, Up: []int{}}} {
		for name, call := range ofOrigamis() {
			wantError(t, name+" of no squares", call(bad(o, o, api.Orbit{})), api.ErrShape)
		}
	}
	for _, x := range []api.Orbit{{}, {Labels: []api.Origami{}, S: []int{}, T: nil}, {S: []int{}}} {
		for name, call := range ofOrbits() {
			wantError(t, name+" of no labels", call(bad(ell(), ell(), x)), api.ErrShape)
		}
	}
}

// R2: no argument makes a function panic.
func TestNoPanic(t *testing.T) {
	odd := []int{-most - 1, -1000001, -1, 0, 1, 2, 3, 1000, 1000000, most}
	lists := [][]int{nil, {}, {0}, {0, 1}, {1, 0}, {2, 0, 1}, {0, 1, 2}, {0, 2, 1}, {1, 1}, odd, identity(60), identity(61)}
	r := rand.New(rand.NewSource(28))
	number := func() int { return odd[r.Intn(len(odd))] }
	some := func() []int { return lists[r.Intn(len(lists))] }
	for range 4000 {
		q := question{
			o: squares(some(), some()), b: squares(some(), some()), w: randomWord(r, r.Intn(8)) + string(rune(r.Intn(300))),
			m: unit(number(), number(), number(), number()), n: unit(number(), number(), number(), number()),
			x: ellOrbit(), from: number(), to: number(),
		}
		switch r.Intn(4) {
		case 0:
			q.x = api.Orbit{Labels: []api.Origami{q.o, q.b}, S: some(), T: some()}
		case 1:
			q.x.Labels[r.Intn(3)] = squares(some(), some())
		case 2:
			q.x.S, q.x.T = some(), some()
		}
		for _, call := range calls() {
			call(q)
		}
	}
}
