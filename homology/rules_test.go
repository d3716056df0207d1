package homology_test

import (
	"fmt"
	"math/rand"
	"reflect"
	"strings"
	"testing"

	"flatland/api"
	"flatland/homology"
	"flatland/origami"
)

// question is the arguments of all functions.
type question struct {
	O        api.Origami
	I        int
	C, D     []int // chains
	Base, To [][]int
	Word     string
	Rows     api.Rows
	M        [][]int
	S        api.Surface
	Edges    []int // a chain of the surface
}

func list[T any](x T, e api.Errno) []any { return []any{x, e} }

func lists[T, U any](x T, y U, e api.Errno) []any { return []any{x, y, e} }

// ofOrigamis returns the functions with an origami, as functions of a question; they return all their results.
func ofOrigamis() map[string]func(q question) []any {
	return map[string]func(q question) []any{
		"Vertices":        func(q question) []any { return list(homology.Vertices(q.O)) },
		"Boundary":        func(q question) []any { return list(homology.Boundary(q.O, q.C)) },
		"Square":          func(q question) []any { return list(homology.Square(q.O, q.I)) },
		"Bounds":          func(q question) []any { return lists(homology.Bounds(q.O, q.C)) },
		"Rank":            func(q question) []any { return list(homology.Rank(q.O)) },
		"Basis":           func(q question) []any { return list(homology.Basis(q.O)) },
		"CheckBasis":      func(q question) []any { return []any{homology.CheckBasis(q.O, q.Base)} },
		"Coordinates":     func(q question) []any { return list(homology.Coordinates(q.O, q.Base, q.D)) },
		"Intersect":       func(q question) []any { return list(homology.Intersect(q.O, q.C, q.D)) },
		"Gram":            func(q question) []any { return list(homology.Gram(q.O, q.Base)) },
		"Symplectic":      func(q question) []any { return list(homology.Symplectic(q.O)) },
		"CheckSymplectic": func(q question) []any { return []any{homology.CheckSymplectic(q.O, q.Base)} },
		"Holonomy":        func(q question) []any { return lists(homology.Holonomy(q.O, q.C)) },
		"Push":            func(q question) []any { return lists(homology.Push(q.O, q.Word, q.C)) },
		"Cocycle":         func(q question) []any { return list(homology.Cocycle(q.O, q.Word, q.Base, q.To)) },
	}
}

// ofOthers returns the functions with rows, matrices and surfaces.
func ofOthers() map[string]func(q question) []any {
	return map[string]func(q question) []any{
		"Form":       func(q question) []any { return list(homology.Form(q.Rows)) },
		"Invariants": func(q question) []any { return list(homology.Invariants(q.M)) },
		"Cells":      func(q question) []any { return lists(homology.Cells(q.S)) },
		"Betti":      func(q question) []any { return list(homology.Betti(q.S)) },
		"Periods":    func(q question) []any { return list(homology.Periods(q.S, q.Edges)) },
	}
}

// calls returns all functions.
func calls() map[string]func(q question) []any {
	all := ofOrigamis()
	for name, call := range ofOthers() {
		all[name] = call
	}
	return all
}

// questions returns questions to which all functions have answers.
func questions(t *testing.T) []question {
	r := rand.New(rand.NewSource(61))
	var all []question
	for _, o := range []api.Origami{torus(), ell(), quaternions(), grid(3, 2), long(4, 3), beside(ell(), torus())} {
		b, _ := homology.Symplectic(o)
		for _, w := range []string{"", "T", "sTtS"} {
			p, _, _ := homology.Push(o, w, b[0])
			s, _ := origami.Surface(o)
			if w == "T" {
				s = octagon()
			}
			q := question{
				O: o, I: len(o.Right) - 1, C: squareOf(o, 0), D: randomCycle(r, o, 3), Base: b, To: basisOf(t, p), Word: w,
				Rows: api.Rows{Top: []int{0, 2, 1}, Bottom: []int{2, 1, 0}}, M: randomMatrix(3, 4, func(i, j int) int { return 6*i - j*j }), S: s,
			}
			q.Edges = make([]int, len(edgesOf(s)))
			q.Edges[0] = 5
			all = append(all, q)
		}
	}
	return all
}

// cells notes the arrays of all lists in a value.
func cells(v reflect.Value, found map[uintptr]bool, twice func()) {
	switch v.Kind() {
	case reflect.Slice:
		if v.Cap() > 0 {
			if found[v.Pointer()] {
				twice()
			}
			found[v.Pointer()] = true
		}
		for i := range v.Len() {
			cells(v.Index(i), found, twice)
		}
	case reflect.Struct:
		for i := range v.NumField() {
			cells(v.Field(i), found, twice)
		}
	case reflect.Interface:
		cells(v.Elem(), found, twice)
	}
}

// deep returns a copy that shares no memory.
func deep(q question) question { return deepValue(reflect.ValueOf(q)).Interface().(question) }

func deepValue(v reflect.Value) reflect.Value {
	c := reflect.New(v.Type()).Elem()
	switch v.Kind() {
	case reflect.Slice:
		if v.IsNil() {
			return c
		}
		c.Set(reflect.MakeSlice(v.Type(), v.Len(), v.Len()))
		for i := range v.Len() {
			c.Index(i).Set(deepValue(v.Index(i)))
		}
	case reflect.Struct:
		for i := range v.NumField() {
			c.Field(i).Set(deepValue(v.Field(i)))
		}
	default:
		c.Set(v)
	}
	return c
}

// R3: arguments are neither changed nor part of results, and no two lists of a result share memory. R4: the results are the same each time.
func TestMemory(t *testing.T) {
	for _, c := range questions(t) {
		for name, call := range calls() {
			q := deep(c)
			result := call(q)
			if !reflect.DeepEqual(q, deep(c)) {
				t.Errorf("%s has written into its arguments", name)
			}
			found := map[uintptr]bool{}
			cells(reflect.ValueOf(q), found, func() {})
			cells(reflect.ValueOf(result), found, func() { t.Errorf("%s: lists share memory", name) })
			if again := call(q); fmt.Sprint(result) != fmt.Sprint(again) {
				t.Errorf("%s: %v, and then %v", name, result, again)
			}
			want(t, name+" has an answer", result[len(result)-1].(api.Errno), api.OK)
		}
	}
}

// R4: two calls do not disturb each other.
func TestAtOnce(t *testing.T) {
	right, _ := homology.Symplectic(long(20, 21))
	done := make(chan [][]int)
	for range 4 {
		go func() {
			b, _ := homology.Symplectic(long(20, 21))
			done <- b
		}()
	}
	for range 4 {
		want(t, "the same basis", sameLists(<-done, right), true)
	}
}

// wantError checks that a call returned an error and nothing else.
func wantError(t *testing.T, what string, result []any, e api.Errno) {
	t.Helper()
	last := len(result) - 1
	want(t, what, result[last].(api.Errno), e)
	for _, x := range result[:last] {
		if v := reflect.ValueOf(x); !isEmpty(v) {
			t.Errorf("%s: %v beside the error", what, x)
		}
	}
}

// isEmpty reports whether a value is the zero value; nil and empty lists are the same.
func isEmpty(v reflect.Value) bool {
	switch v.Kind() {
	case reflect.Slice:
		return v.Len() == 0
	case reflect.Struct:
		for i := range v.NumField() {
			if !isEmpty(v.Field(i)) {
				return false
			}
		}
		return true
	}
	return v.IsZero()
}

// R1: the errors of origamis come first, whatever the other arguments are; beside an error there is nothing.
func TestOrigamiErrorsFirst(t *testing.T) {
	for what, c := range badOrigamis() {
		for name, call := range ofOrigamis() {
			for _, q := range []question{
				{I: -1, Word: "x"},
				{C: []int{most}, D: []int{most}, Base: make([][]int, 41), To: make([][]int, 41), Word: strings.Repeat("x", 21)},
				{C: make([]int, 2*len(c.o.Right)), D: make([]int, 2*len(c.o.Right))},
			} {
				q.O = c.o
				wantError(t, name+" with "+what, call(q), c.e)
			}
		}
	}
}

// R1: beside the errors of other arguments there is nothing, either.
func TestNothingBesideErrors(t *testing.T) {
	good := questions(t)[4]
	short, out := []int{1}, make([]int, len(good.C))
	out[1] = api.MaxChain + 1
	o, open := grid(3, 2), edgeChain(6, 0)
	for name, call := range calls() {
		for _, c := range []struct {
			change func(q *question)
			names  string
			e      api.Errno
		}{
			{func(q *question) { q.C, q.D = short, short }, "Boundary Bounds Coordinates Intersect Holonomy Push", api.ErrShape},
			{func(q *question) { q.C, q.D = out, out }, "Boundary Bounds Coordinates Intersect Holonomy Push", api.ErrRange},
			{func(q *question) { q.O, q.C, q.D, q.Base = o, open, open, basisOf(t, o) }, "Coordinates Intersect", api.ErrForm},
			{func(q *question) { q.I = 3 }, "Square", api.ErrMissing},
			{func(q *question) { q.Base = [][]int{short} }, "CheckBasis Coordinates Gram CheckSymplectic Cocycle", api.ErrShape},
			{func(q *question) { q.Base = [][]int{out} }, "CheckBasis Coordinates Gram CheckSymplectic Cocycle", api.ErrRange},
			{func(q *question) { q.Base = make([][]int, 41) }, "CheckBasis Coordinates Gram CheckSymplectic Cocycle", api.ErrLarge},
			{func(q *question) { q.O, q.C, q.D, q.Base = o, make([]int, 12), make([]int, 12), [][]int{open} }, "CheckBasis Coordinates Gram CheckSymplectic Cocycle", api.ErrForm},
			{func(q *question) { q.Base = q.Base[1:] }, "CheckBasis Coordinates CheckSymplectic Cocycle", api.ErrProof},
			{func(q *question) { q.To = q.To[1:] }, "Cocycle", api.ErrProof},
			{func(q *question) { q.Word = "x" }, "Push Cocycle", api.ErrSyntax},
			{func(q *question) { q.Word = strings.Repeat("S", 21) }, "Push Cocycle", api.ErrLarge},
			{func(q *question) { q.Rows.Top = nil }, "Form", api.ErrShape},
			{func(q *question) { q.Rows.Top = []int{1, 1, 2} }, "Form", api.ErrForm},
			{func(q *question) { q.M = append(q.M, nil) }, "Invariants", api.ErrShape},
			{func(q *question) { q.M[2][3] = most }, "Invariants", api.ErrRange},
			{func(q *question) { q.M = make([][]int, 41) }, "Invariants", api.ErrLarge},
			{func(q *question) { q.S.Faces = nil }, "Cells Betti Periods", api.ErrShape},
			{func(q *question) { q.Edges = nil }, "Periods", api.ErrShape},
			{func(q *question) { q.Edges[0] = most }, "Periods", api.ErrRange},
		} {
			if q := deep(good); strings.Contains(" "+c.names+" ", " "+name+" ") {
				c.change(&q)
				wantError(t, name, call(q), c.e)
			}
		}
	}
}

// R5: a nil list and an empty one are the same.
func TestNil(t *testing.T) {
	empty := []int{}
	for _, o := range []api.Origami{{}, {Right: empty}, {Up: empty}, {Right: empty, Up: empty}} {
		for name, call := range ofOrigamis() {
			wantError(t, name+" of no squares", call(question{O: o, C: empty, D: empty}), api.ErrShape)
		}
	}
	for name, call := range calls() {
		a := call(question{O: ell(), S: squareTorus()})
		b := call(question{O: ell(), C: empty, D: empty, Base: [][]int{}, To: [][]int{}, Rows: api.Rows{Top: empty, Bottom: empty}, M: [][]int{}, S: squareTorus(), Edges: empty})
		want(t, name+" of nil and of empty lists", fmt.Sprint(a), fmt.Sprint(b))
	}
	wantError(t, "a surface without lists", calls()["Cells"](question{S: api.Surface{Faces: [][]api.Vec{}, Glue: [][]api.Slot{}}}), api.ErrShape)
}

// R2: no argument makes a function panic.
func TestNoPanic(t *testing.T) {
	odd := []int{-most - 1, -1000001, -1000000, -1, 0, 1, 2, 3, 1000000, 1000001, most}
	r := rand.New(rand.NewSource(62))
	number := func() int { return odd[r.Intn(len(odd))] }
	some := func() []int {
		l := make([]int, r.Intn(8))
		for i := range l {
			l[i] = number()
			if r.Intn(3) > 0 {
				l[i] = r.Intn(5) - 2
			}
		}
		return l
	}
	rows := func() [][]int {
		l := make([][]int, r.Intn(6))
		for i := range l {
			l[i] = some()
		}
		return l
	}
	good := questions(t)
	for range 4000 {
		q := deep(good[r.Intn(len(good))])
		for _, change := range []func(){
			func() { q.O = squares(some(), some()) },
			func() { q.O.Up = r.Perm(len(q.O.Up)) },
			func() { q.O.Right[r.Intn(len(q.O.Right))] = number() },
			func() { q.C, q.D = some(), some() },
			func() { q.C, q.D = randomChain(r, q.O, 1000000), randomChain(r, q.O, 2) },
			func() { q.Base, q.To = rows(), rows() },
			func() { q.To = nil },
			func() { q.Word, q.I = randomWord(r, r.Intn(24))+string(rune(r.Intn(300))), number() },
			func() { q.Rows = api.Rows{Top: some(), Bottom: some()} },
			func() { q.M = rows() },
			func() { q.S.Faces, q.S.Glue = q.S.Faces[:r.Intn(2)], nil },
			func() { q.S.Glue[0] = partners(number(), number(), number(), number()) },
			func() { q.S.Field = api.Field{Poly: some(), Lo: number(), Hi: number(), Den: number()} },
			func() { q.Edges = some() },
		} {
			if r.Intn(5) == 0 && len(q.O.Right) > 0 && len(q.S.Glue) > 0 {
				change()
			}
		}
		for _, call := range calls() {
			call(q)
		}
	}
	for _, call := range calls() {
		call(question{})
	}
}
