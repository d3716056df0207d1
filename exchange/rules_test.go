package exchange_test

import (
	"fmt"
	"math"
	"math/rand"
	"reflect"
	"testing"

	"flatland/api"
	"flatland/exchange"
	"flatland/field"
)

// question is the arguments of all functions.
type question struct {
	x         api.Exchange
	r         api.Rows
	p, length api.Num
	n, kind   int
	kinds     []int
	s         api.Surface
	text      string
}

func list[T any](x T, e api.Errno) []any { return []any{x, e} }

func two[T, U any](x T, y U, e api.Errno) []any { return []any{x, y, e} }

// ofExchanges returns all functions with an exchange as functions of a question; they return all their results.
func ofExchanges() map[string]func(q question) []any {
	return map[string]func(q question) []any{
		"Check":       func(q question) []any { return []any{exchange.Check(q.x)} },
		"Normal":      func(q question) []any { return list(exchange.Normal(q.x)) },
		"Total":       func(q question) []any { return list(exchange.Total(q.x)) },
		"Shifts":      func(q question) []any { return list(exchange.Shifts(q.x)) },
		"Apply":       func(q question) []any { return two(exchange.Apply(q.x, q.p)) },
		"Inverse":     func(q question) []any { return list(exchange.Inverse(q.x)) },
		"Orbit":       func(q question) []any { return two(exchange.Orbit(q.x, q.p, q.n)) },
		"Connections": func(q question) []any { return list(exchange.Connections(q.x, q.n)) },
		"Step":        func(q question) []any { return two(exchange.Step(q.x)) },
		"Path": func(q question) []any {
			x, kinds, matrix, e := exchange.Path(q.x, q.n)
			return []any{x, kinds, matrix, e}
		},
		"Cone":    func(q question) []any { return list(exchange.Cone(q.x, q.kinds)) },
		"Return":  func(q question) []any { return two(exchange.Return(q.x, q.p, q.length)) },
		"Belts":   func(q question) []any { return list(exchange.Belts(q.x)) },
		"Suspend": func(q question) []any { return list(exchange.Suspend(q.x)) },
	}
}

// ofRows returns all functions with rows.
func ofRows() map[string]func(q question) []any {
	return map[string]func(q question) []any{
		"CheckRows":   func(q question) []any { return []any{exchange.CheckRows(q.r)} },
		"Irreducible": func(q question) []any { return list(exchange.Irreducible(q.r)) },
		"Move":        func(q question) []any { return two(exchange.Move(q.r, q.kind)) },
		"Follow":      func(q question) []any { return two(exchange.Follow(q.r, q.kinds)) },
		"Class":       func(q question) []any { return list(exchange.Class(q.r)) },
		"Orders":      func(q question) []any { return list(exchange.Orders(q.r)) },
		"Print":       func(q question) []any { return list(exchange.Print(q.r)) },
	}
}

// calls returns all functions.
func calls() map[string]func(q question) []any {
	all := map[string]func(q question) []any{
		"Read":  func(q question) []any { return list(exchange.Read(q.s)) },
		"Parse": func(q question) []any { return list(exchange.Parse(q.text)) },
	}
	for name, call := range ofExchanges() {
		all[name] = call
	}
	for name, call := range ofRows() {
		all[name] = call
	}
	return all
}

// ask returns a question to which all functions have answers but for Belts, which needs fractions, and for those that end at a tie.
func ask(x api.Exchange, n int, kinds []int) question {
	text, _ := exchange.Print(rowsOf(x))
	s, _ := exchange.Suspend(x)
	return question{x: x, r: rowsOf(x), p: ratio(1, 2), length: ratio(3, 4), n: n, kind: 1, kinds: kinds, s: s, text: text}
}

func questions(t *testing.T) []question {
	r := rand.New(rand.NewSource(15))
	fourth, _ := field.Cosine(15)
	x := over(t, "0 1 2 3 / 3 1 0 2", 1, 2, 1, 1)
	x.Field = fourth
	x.Lengths[1] = api.Num{C: []api.Int{{1}, {1}, {-1}, {2}}, D: []int{3}}
	return []question{
		ask(over(t, "0 1 / 1 0", 3, 2), 2, []int{1}),
		ask(over(t, "2 0 1 / 1 0 2", 5, 7, 3), 1, []int{0, 1}),
		ask(diagonal(t), 6, []int{0}),
		ask(x, 2, []int{1}),
		ask(randomModel(r, 8, 3, false).exchange(), 3, nil),
	}
}

// cells notes the arrays of all lists in a value.
func cells(v reflect.Value, found map[uintptr]bool, twice func()) {
	switch v.Kind() {
	case reflect.Slice:
		if v.Cap() > 0 {
			if found[v.Pointer()] {
				twice()
			}
			found[v.Pointer()] = true
		}
		for i := range v.Len() {
			cells(v.Index(i), found, twice)
		}
	case reflect.Struct:
		for i := range v.NumField() {
			cells(v.Field(i), found, twice)
		}
	case reflect.Interface:
		cells(v.Elem(), found, twice)
	}
}

// deep returns a copy that shares no memory.
func deep[T any](x T) T { return deepValue(reflect.ValueOf(&x).Elem()).Interface().(T) }

func deepValue(v reflect.Value) reflect.Value {
	c := reflect.New(v.Type()).Elem()
	switch v.Kind() {
	case reflect.Slice:
		if v.IsNil() {
			return c
		}
		c.Set(reflect.MakeSlice(v.Type(), v.Len(), v.Len()))
		for i := range v.Len() {
			c.Index(i).Set(deepValue(v.Index(i)))
		}
	case reflect.Struct:
		for i := range v.NumField() {
			c.Field(i).Set(deepValue(v.Field(i)))
		}
	default:
		c.Set(v)
	}
	return c
}

// deepQuestion returns a copy of a question that shares no memory.
func deepQuestion(q question) question {
	return question{deep(q.x), deep(q.r), deep(q.p), deep(q.length), q.n, q.kind, deep(q.kinds), deep(q.s), q.text}
}

// untidyQuestion returns the same question with numbers that are not in normal form.
func untidyQuestion(r *rand.Rand, q question) question {
	poly := q.x.Field.Poly
	u := deepQuestion(q)
	u.x, u.p, u.length = untidyExchange(r, q.x), untidy(r, q.p, poly), untidy(r, q.length, poly)
	for _, edges := range u.s.Faces {
		for i, v := range edges {
			edges[i] = api.Vec{X: untidy(r, v.X, poly), Y: untidy(r, v.Y, poly)}
		}
	}
	return u
}

// normal reports whether all numbers in a value are in normal form.
func normal(r *field.Real, v reflect.Value) bool {
	if x, ok := v.Interface().(api.Num); ok {
		return sameNum(x, r.Normal(x))
	}
	switch v.Kind() {
	case reflect.Slice:
		for i := range v.Len() {
			if !normal(r, v.Index(i)) {
				return false
			}
		}
	case reflect.Struct:
		for i := range v.NumField() {
			if !normal(r, v.Field(i)) {
				return false
			}
		}
	}
	return true
}

// R3: arguments are neither changed nor part of results, and no two lists of a result share memory. R4: the results are the same each time. R6: numbers are read by their value, and all Nums of results are in normal form.
func TestMemory(t *testing.T) {
	r := rand.New(rand.NewSource(16))
	answers := map[string]int{}
	for _, tidy := range questions(t) {
		real := open(t, tidy.x.Field)
		for _, c := range []question{tidy, untidyQuestion(r, tidy)} {
			for name, call := range calls() {
				q := deepQuestion(c)
				result := call(q)
				if !reflect.DeepEqual(q, deepQuestion(c)) {
					t.Errorf("%s has written into its arguments", name)
				}
				found := map[uintptr]bool{}
				for _, x := range []any{q.x, q.r, q.p, q.length, q.kinds, q.s} {
					cells(reflect.ValueOf(x), found, func() {})
				}
				cells(reflect.ValueOf(result), found, func() { t.Errorf("%s: lists share memory", name) })
				// As texts nil lists and empty ones are the same.
				if again := call(q); fmt.Sprint(result) != fmt.Sprint(again) {
					t.Errorf("%s: %v, and then %v", name, result, again)
				}
				if first := call(tidy); fmt.Sprint(result) != fmt.Sprint(first) {
					t.Errorf("%s: %v, and with other forms %v", name, first, result)
				}
				if result[len(result)-1] == api.OK {
					answers[name]++
					for _, x := range result {
						want(t, name+" has numbers in normal form", normal(real, reflect.ValueOf(x)), true)
					}
				}
			}
		}
	}
	for name := range calls() {
		want(t, name+" has answers", answers[name] > 3, true)
	}
}

// R4: two calls do not disturb each other.
func TestAtOnce(t *testing.T) {
	r := rows(t, "0 1 2 3 4 5 / 1 3 2 5 0 4")
	right := class(r)
	done := make(chan api.Diagram)
	for range 4 {
		go func() {
			d, _ := exchange.Class(r)
			done <- d
		}()
	}
	for range 4 {
		want(t, "the same class", sameDiagram(<-done, right), true)
	}
}

// wantError checks that a call returned an error and nothing else.
func wantError(t *testing.T, what string, result []any, e api.Errno) {
	t.Helper()
	last := len(result) - 1
	want(t, what, result[last].(api.Errno), e)
	for _, x := range result[:last] {
		v := reflect.ValueOf(x)
		if !v.IsZero() && !(v.Kind() == reflect.Slice && v.Len() == 0) {
			t.Errorf("%s: %v beside the error", what, x)
		}
	}
}

// bad returns a question with other arguments that are all wrong.
func bad(x api.Exchange) question {
	return question{x: x, r: rowsOf(x), p: field.Whole(-1), length: field.Whole(-1), n: -1, kind: 2, kinds: make([]int, 99)}
}

// needs are the functions that need irreducible rows.
func needs() []string {
	return []string{"Step", "Move", "Path", "Follow", "Cone", "Class", "Orders", "Suspend"}
}

// R1: the errors of the exchange or of the rows come first, then that of rows that are reducible; beside an error there is nothing.
func TestErrorsFirst(t *testing.T) {
	good := over(t, "0 1 2 / 1 0 2", 1, 2, 3)
	for what, c := range badRows() {
		x := api.Exchange{Field: field.Rational(), Top: c.r.Top, Bottom: c.r.Bottom}
		for name, call := range ofExchanges() {
			wantError(t, name+" with "+what, call(bad(x)), c.e)
		}
		for name, call := range ofRows() {
			wantError(t, name+" with "+what, call(bad(x)), c.e)
		}
	}
	for name, call := range ofExchanges() {
		x := deep(good)
		x.Lengths = wholes(1, 0, 3)
		wantError(t, name+" with a length 0", call(bad(x)), api.ErrZero)
		x.Lengths = wholes(1, 0)
		wantError(t, name+" with two lengths", call(bad(x)), api.ErrShape)
		x.Field.Den = 0
		wantError(t, name+" with no field", call(bad(x)), api.ErrRange)
	}
	for _, s := range []string{"0 1 2 / 1 0 2", "0 1 2 / 0 2 1", "0 1 / 0 1", "3 1 0 2 / 1 3 2 0", "5 4 3 2 1 0 / 4 3 5 2 0 1"} {
		x := over(t, s)
		x.Lengths = wholes(1, 2, 3, 4, 5, 6)[:len(x.Top)]
		for _, name := range needs() {
			wantError(t, name+" with the reducible rows "+s, calls()[name](bad(x)), api.ErrForm)
		}
	}
	// All other functions have answers for rows that are reducible.
	q := ask(good, 3, nil)
	reduces := map[string]bool{"Read": true}
	for _, name := range needs() {
		reduces[name] = true
	}
	for name, call := range calls() {
		if result := call(q); !reduces[name] {
			want(t, name+" with reducible rows", result[len(result)-1].(api.Errno), api.OK)
		}
	}
}

// R5: a nil list and an empty one are the same.
func TestNil(t *testing.T) {
	empty := api.Exchange{Field: field.Rational(), Top: []int{}, Bottom: []int{}, Lengths: []api.Num{}}
	want(t, "Check without letters", exchange.Check(empty), api.ErrShape)
	want(t, "CheckRows without letters", exchange.CheckRows(api.Rows{Top: []int{}}), api.ErrShape)
	x := over(t, "0 1 / 1 0", 3, 2)
	l, e := exchange.Cone(x, []int{})
	wantSame(t, "Cone of no kinds", sameNums, l, e, wholes(3, 2), api.OK)
	p := api.Num{C: []api.Int{{}}, D: []int{}}
	q, letter, e := exchange.Apply(x, p)
	wantSame(t, "Apply of 0", sameImage, image{q, letter}, e, image{field.Whole(2), 0}, api.OK)
	y, e := exchange.Read(api.Surface{Field: field.Rational(), Faces: [][]api.Vec{}, Glue: [][]api.Slot{}})
	wantSame(t, "Read without faces", sameExchange, y, e, api.Exchange{}, api.ErrShape)
}

// R2: no argument makes a function panic.
func TestNoPanic(t *testing.T) {
	odd := []int{math.MinInt, -1, 0, 1, 3, math.MaxInt}
	fields := []api.Field{{}, field.Rational(), root2(), {Poly: odd, Lo: math.MinInt, Hi: math.MaxInt, Den: math.MinInt}}
	lists := [][]int{nil, {0}, {0, 1}, {1, 0}, {2, 0, 1}, {0, 1, 2}, odd, {math.MaxInt, math.MinInt}, identity(8), identity(9), make([]int, 100)}
	r := rand.New(rand.NewSource(17))
	number := func() api.Num {
		a, b := odd[r.Intn(6)], odd[r.Intn(6)]
		return []api.Num{{}, {C: []api.Int{odd, nil, {a}}, D: []int{b}}, {C: []api.Int{{a, 1}}, D: []int{0, b, 0}}, field.Whole(a), field.Whole(1), ratio(1, 3)}[r.Intn(6)]
	}
	for range 5000 {
		a, b := lists[r.Intn(len(lists))], lists[r.Intn(len(lists))]
		q := question{x: api.Exchange{Field: fields[r.Intn(4)], Top: a, Bottom: b}, r: api.Rows{Top: b, Bottom: a}, p: number(), length: number(), n: odd[r.Intn(6)], kind: odd[r.Intn(6)], kinds: lists[r.Intn(len(lists))]}
		for range min(len(a), 9) + r.Intn(20)/19 {
			q.x.Lengths = append(q.x.Lengths, number())
		}
		q.s = api.Surface{Field: q.x.Field, Faces: [][]api.Vec{{{X: number(), Y: number()}, vec(1, 0), vec(-1, 0)}, nil}[:r.Intn(3)], Glue: [][]api.Slot{make([]api.Slot, 3), nil}[:r.Intn(3)]}
		q.text = fmt.Sprint(a) + " / " + string(rune(r.Intn(300))) + fmt.Sprint(b)
		for _, call := range calls() {
			call(q)
		}
		if s, e := exchange.Suspend(q.x); e == api.OK {
			f := deep(s)
			f.Faces[0][r.Intn(len(f.Faces[0]))].X = number()
			s.Glue[0][r.Intn(len(f.Faces[0]))] = api.Slot{Face: odd[r.Intn(6)], Edge: odd[r.Intn(6)]}
			exchange.Read(f)
			exchange.Read(s)
		}
	}
}

// R6: numbers of any size.
func TestLargeNumbers(t *testing.T) {
	r := open(t, field.Rational())
	far := api.Num{C: []api.Int{append(make([]int, 40), 7)}, D: []int{1}}
	near := api.Num{C: []api.Int{{1}}, D: append(make([]int, 40), 7)}
	x := over(t, "0 1 / 1 0", 1, 1)
	x.Lengths = []api.Num{far, near}
	q, letter, e := exchange.Apply(x, field.Whole(1))
	wantSame(t, "Apply", sameImage, image{q, letter}, e, image{r.Add(field.Whole(1), near), 0}, api.OK)
	q, letter, e = exchange.Apply(x, far)
	wantSame(t, "Apply at the other interval", sameImage, image{q, letter}, e, image{field.Whole(0), 1}, api.OK)
	_, _, e = exchange.Apply(x, r.Add(far, near))
	want(t, "Apply at the end", e, api.ErrRange)
	y, kinds, m, e := exchange.Path(x, 60)
	want(t, "the first length after the path", sameNum(y.Lengths[0], r.Sub(far, r.Mul(field.Whole(60), near))), true)
	wantSame(t, "the matrix of a long path", sameMatrix, m, e, [][]int{{1, 60}, {0, 1}}, api.OK)
	wantList(t, "its kinds", kinds[:2], e, []int{1, 1}, api.OK)
	p, n, e := exchange.Return(x, far, r.Add(far, near))
	wantSame(t, "Return", sameImage, image{p, n}, e, image{field.Whole(0), 1}, api.OK)
	_, e = exchange.Belts(x)
	want(t, "Belts", e, api.ErrOpen)
	s, e := exchange.Suspend(x)
	want(t, "Suspend", e, api.OK)
	z, e := exchange.Read(s)
	wantSame(t, "Read", sameExchange, z, e, x, api.OK)
	// Lengths that differ only by a small part are no tie.
	x.Lengths = []api.Num{r.Add(far, near), far}
	y, kind, e := exchange.Step(x)
	wantSame(t, "Step", sameExchange, y, e, api.Exchange{Field: x.Field, Top: x.Top, Bottom: x.Bottom, Lengths: []api.Num{near, far}}, api.OK)
	want(t, "its kind", kind, 1)
}
