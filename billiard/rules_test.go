package billiard_test

import (
	"maps"
	"math"
	"math/rand"
	"reflect"
	"slices"
	"testing"

	"flatland/api"
	"flatland/billiard"
	"flatland/field"
)

// calls returns all functions that take a table, as functions of a table, a state, a code and a number; they return all their results.
func calls() map[string]func(p api.Table, s api.State, code []int, n int) []any {
	return map[string]func(p api.Table, s api.State, code []int, n int) []any{
		"Check":      func(p api.Table, s api.State, code []int, n int) []any { return []any{billiard.Check(p)} },
		"Area":       func(p api.Table, s api.State, code []int, n int) []any { return list(billiard.Area(p)) },
		"Side":       func(p api.Table, s api.State, code []int, n int) []any { return list(billiard.Side(p, n)) },
		"CheckState": func(p api.Table, s api.State, code []int, n int) []any { return []any{billiard.CheckState(p, s)} },
		"Place":      func(p api.Table, s api.State, code []int, n int) []any { return list(billiard.Place(p, s)) },
		"Next":       func(p api.Table, s api.State, code []int, n int) []any { return list(billiard.Next(p, s)) },
		"Follow":     func(p api.Table, s api.State, code []int, n int) []any { return list(billiard.Follow(p, s, n)) },
		"Code":       func(p api.Table, s api.State, code []int, n int) []any { return list(billiard.Code(p, s, n)) },
		"Reverse":    func(p api.Table, s api.State, code []int, n int) []any { return list(billiard.Reverse(p, s)) },
		"Reflection": func(p api.Table, s api.State, code []int, n int) []any { return list(billiard.Reflection(p, n)) },
		"Linear":     func(p api.Table, s api.State, code []int, n int) []any { return list(billiard.Linear(p, code)) },
		"Group":      func(p api.Table, s api.State, code []int, n int) []any { return list(billiard.Group(p)) },
		"Copies":     func(p api.Table, s api.State, code []int, n int) []any { return list(billiard.Copies(p, code)) },
		"Unrolled":   func(p api.Table, s api.State, code []int, n int) []any { return list(billiard.Unrolled(p, s, n)) },
		"Period":     func(p api.Table, s api.State, code []int, n int) []any { return list(billiard.Period(p, s, n)) },
		"Strip":      func(p api.Table, s api.State, code []int, n int) []any { return list(billiard.Strip(p, s, n)) },
		"Periodic":   func(p api.Table, s api.State, code []int, n int) []any { return list(billiard.Periodic(p, code)) },
		"Types":      func(p api.Table, s api.State, code []int, n int) []any { return list(billiard.Types(p, n)) },
		"Print":      func(p api.Table, s api.State, code []int, n int) []any { return list(billiard.Print(p)) },
	}
}

func list[T any](x T, e api.Errno) []any { return []any{x, e} }

// cell is a place in memory: the array of a list.
func cells(v reflect.Value, found map[uintptr]bool, twice func()) {
	switch v.Kind() {
	case reflect.Slice:
		if v.Cap() > 0 {
			if found[v.Pointer()] {
				twice()
			}
			found[v.Pointer()] = true
		}
		for i := range v.Len() {
			cells(v.Index(i), found, twice)
		}
	case reflect.Struct:
		for i := range v.NumField() {
			cells(v.Field(i), found, twice)
		}
	case reflect.Interface:
		cells(v.Elem(), found, twice)
	}
}

// deep returns a copy that shares no memory.
func deep[T any](x T) T {
	return deepValue(reflect.ValueOf(&x).Elem()).Interface().(T)
}

func deepValue(v reflect.Value) reflect.Value {
	c := reflect.New(v.Type()).Elem()
	switch v.Kind() {
	case reflect.Slice:
		if v.IsNil() {
			return c
		}
		c.Set(reflect.MakeSlice(v.Type(), v.Len(), v.Len()))
		for i := range v.Len() {
			c.Index(i).Set(deepValue(v.Index(i)))
		}
	case reflect.Struct:
		for i := range v.NumField() {
			c.Field(i).Set(deepValue(v.Field(i)))
		}
	default:
		c.Set(v)
	}
	return c
}

// R3: arguments are neither changed nor part of results, and no two lists of a result share memory. R4: the results are the same each time.
func TestMemory(t *testing.T) {
	r := rand.New(rand.NewSource(14))
	_, five := pentagon(t)
	_, four := kite(t)
	for _, c := range []struct {
		p    api.Table
		s    api.State
		code []int
	}{{square(), state(0, 1, 2, 1, 1), []int{1, 2, 3, 0}}, {square(), state(0, 1, 2, 1, 4), []int{0, 2}}, {angle(), state(4, 1, 2, 0, -1), []int{0, 4}}, {five, state(1, 2, 5, 1, -3), []int{0, 2}}, {four, state(0, 1, 5, 1, 2), nil}} {
		for range 2 {
			for name, call := range calls() {
				for n := range 4 {
					p, s, code := deep(c.p), deep(c.s), slices.Clone(c.code)
					result := call(p, s, code, n)
					if !reflect.DeepEqual(p, c.p) || !reflect.DeepEqual(s, c.s) || !slices.Equal(code, c.code) {
						t.Errorf("%s has written into its arguments", name)
					}
					found := map[uintptr]bool{}
					cells(reflect.ValueOf([]any{p, s, code}), found, func() {})
					cells(reflect.ValueOf(result), found, func() { t.Errorf("%s: lists share memory", name) })
					if again := call(p, s, code, n); !reflect.DeepEqual(result, again) {
						t.Errorf("%s: %v, and then %v", name, result, again)
					}
				}
			}
			// The second time with numbers that are not in normal form.
			c.s = untidyState(r, c.s, c.p.Field.Poly)
			c.p = untidyTable(r, c.p)
		}
	}
	p, _, _ := billiard.Parse(squareText)
	cells(reflect.ValueOf(p), map[uintptr]bool{}, func() { t.Errorf("Parse: lists share memory") })
}

// R6: Nums are read by their value: with numbers that are not in normal form all results are the same.
func TestValues(t *testing.T) {
	r := rand.New(rand.NewSource(15))
	all := calls()
	_, five := pentagon(t)
	for _, c := range []struct {
		p api.Table
		s api.State
	}{{square(), state(0, 1, 2, 1, 1)}, {angle(), state(4, 1, 2, 1, -3)}, {five, state(1, 2, 5, 1, -3)}} {
		for _, name := range slices.Sorted(maps.Keys(all)) {
			call := all[name]
			for n := range 4 {
				code := []int{0, 2, 0, 2}[:n]
				a := call(c.p, c.s, code, n)
				b := call(untidyTable(r, c.p), untidyState(r, c.s, c.p.Field.Poly), code, n)
				if !reflect.DeepEqual(a, b) {
					t.Errorf("%s: %v, and with other forms %v", name, a, b)
				}
			}
		}
	}
}

// R1: the error of the table is the first one, then that of the state; beside an error there is nothing, unless the chapter says so.
func TestErrorsFirst(t *testing.T) {
	bad := api.Field{Poly: []int{1}}
	for _, c := range []struct {
		p api.Table
		e api.Errno
	}{{api.Table{Field: bad, Corners: square().Corners}, api.ErrShape}, {api.Table{Field: api.Field{Poly: []int{-4, 0, 1}, Lo: 1, Hi: 2, Den: 1}}, api.ErrForm}, {polygon(0, 0, 1, 1), api.ErrShape}, {polygon(make([]int, 26)...), api.ErrLarge}, {polygon(0, 0, 0, 1, 1, 0), api.ErrForm}} {
		for name, call := range calls() {
			for _, n := range []int{-1, 0, 1, 300} {
				result := call(c.p, state(77, 7, 2, 0, 0), make([]int, 300), n)
				wantError(t, name, result, c.e)
			}
		}
	}
	states := map[string]bool{"CheckState": true, "Place": true, "Next": true, "Follow": true, "Code": true, "Reverse": true, "Unrolled": true, "Period": true, "Strip": true}
	for name, call := range calls() {
		for _, n := range []int{-1, 0, 1, 300} {
			if !states[name] {
				continue
			}
			wantError(t, name, call(square(), state(77, 7, 2, 0, 0), nil, n), api.ErrMissing)
			wantError(t, name, call(square(), state(2, 7, 2, 0, 0), nil, n), api.ErrRange)
			wantError(t, name, call(square(), state(2, 1, 2, 0, 1), nil, n), api.ErrForm)
		}
	}
}

// wantError checks that a call returned an error and nothing else.
func wantError(t *testing.T, what string, result []any, e api.Errno) {
	t.Helper()
	last := len(result) - 1
	want(t, what, result[last].(api.Errno), e)
	for _, x := range result[:last] {
		v := reflect.ValueOf(x)
		if !v.IsZero() && !(v.Kind() == reflect.Slice && v.Len() == 0) {
			t.Errorf("%s: %v beside the error", what, x)
		}
	}
}

// R2: no argument makes a function panic.
func TestNoPanic(t *testing.T) {
	odd := []int{math.MinInt, -1, 0, 1, 3, math.MaxInt}
	tables := []api.Table{{}, square(), angle(), {Field: api.Field{Poly: odd, Lo: math.MinInt, Hi: math.MaxInt, Den: math.MinInt}}, {Field: field.Rational(), Corners: make([]api.Vec, 3)}, {Field: field.Rational(), Corners: make([]api.Vec, 100)}}
	for _, a := range odd {
		x := api.Num{C: []api.Int{odd, nil, {a}}, D: []int{a}}
		y := api.Num{C: []api.Int{{a, 1}}, D: []int{0, a, 0}}
		tables = append(tables, api.Table{Field: field.Rational(), Corners: []api.Vec{{X: x, Y: y}, {X: y, Y: x}, {}, {X: x, Y: x}}})
		tables = append(tables, api.Table{Field: field.Rational(), Corners: []api.Vec{{}, {X: x}, {X: x, Y: x}}})
		for _, p := range tables {
			for _, n := range odd {
				for _, call := range calls() {
					call(p, api.State{Side: n, T: x, Dir: api.Vec{X: x, Y: y}}, []int{n, a}, n)
					call(p, api.State{Side: a, T: ratio(1, 3), Dir: api.Vec{X: y, Y: x}}, odd, n)
				}
			}
		}
	}
	for _, s := range []string{"table", "table \ncorner", "table 0,1 0 0 1\ncorner / /\n", "table 0,1 0 0 1\ncorner , ,\n", "\x00\xff\n", "table 0,1 0 0 1\ncorner 1/0 0\n", "table 99999999999999999999,1 0 0 1\n"} {
		_, _, e := billiard.Parse(s)
		want(t, "Parse of "+s, e, api.ErrSyntax)
	}
}

// R6: numbers of any size.
func TestLargeNumbers(t *testing.T) {
	long := make([]int, 60)
	long[59] = 1
	far := api.Num{C: []api.Int{long}, D: []int{1}}
	p := square()
	for i, v := range p.Corners {
		r := open(t, p.Field, api.OK)
		p.Corners[i] = r.Times(far, v)
	}
	s := api.State{T: api.Num{C: []api.Int{{1}}, D: long}, Dir: api.Vec{X: far, Y: far}}
	code, e := billiard.Code(p, s, 8)
	wantCode(t, "Code in a large square", code, e, []int{1, 2, 3, 0, 1, 2, 3, 0}, api.OK)
	b, e := billiard.Strip(p, s, 8)
	half := open(t, p.Field, api.OK)
	wantSame(t, "Strip in a large square", sameBeam, b, e, api.Beam{Lo: ratio(0, 1), Hi: ratio(1, 1), Square: half.Mul(ratio(1, 2), half.Mul(far, far))}, api.OK)
	k, e := billiard.Period(p, s, 200)
	wantCode(t, "Period in a large square", []int{k}, e, []int{4}, api.OK)
}
