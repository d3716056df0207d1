package archive_test

import (
	"fmt"
	"math/rand"
	"reflect"
	"strings"
	"testing"

	"flatland/api"
	"flatland/archive"
	"flatland/billiard"
)

// question is the arguments of all functions.
type question struct {
	R       api.Result
	S       api.Survey
	N, K    int
	Text    string
	O       api.Origami
	T       api.Table
	State   api.State
	Results []api.Result // of an archive
}

func list[T any](x T, e api.Errno) []any { return []any{x, e} }

// archiveOf returns an archive with the results of a question that are accepted.
func (q question) archiveOf() *archive.Archive {
	a := archive.New()
	for _, r := range q.Results {
		a.Add(r)
	}
	return a
}

// calls returns all functions as functions of a question; they return all their results, of archives their journals.
func calls() map[string]func(q question) []any {
	return map[string]func(q question) []any{
		"Verify":      func(q question) []any { return []any{archive.Verify(q.R.Claim)} },
		"CheckResult": func(q question) []any { return []any{archive.CheckResult(q.R)} },
		"Format":      func(q question) []any { return list(archive.Format(q.R)) },
		"Parse":       func(q question) []any { return list(archive.Parse(q.Text)) },
		"Add":         func(q question) []any { a := q.archiveOf(); return append(list(a.Add(q.R)), a.Journal()) },
		"Results":     func(q question) []any { return []any{q.archiveOf().Results()} },
		"Named":       func(q question) []any { return []any{q.archiveOf().Named(q.R.Name)} },
		"Kinds":       func(q question) []any { return []any{q.archiveOf().Kinds()} },
		"Journal":     func(q question) []any { return []any{q.archiveOf().Journal()} },
		"Recover":     func(q question) []any { a, n := archive.Recover(q.Text + "\n"); return []any{a.Results(), n} },
		"Merge": func(q question) []any {
			a, e := archive.Merge(q.archiveOf(), q.archiveOf())
			return []any{a.Results(), e}
		},
		"Begin":        func(q question) []any { return list(archive.Begin(q.N)) },
		"Advance":      func(q question) []any { return list(archive.Advance(q.S, q.N)) },
		"Done":         func(q question) []any { return []any{archive.Done(q.S)} },
		"CheckSurvey":  func(q question) []any { return []any{archive.CheckSurvey(q.S)} },
		"FormatSurvey": func(q question) []any { return list(archive.FormatSurvey(q.S)) },
		"ParseSurvey":  func(q question) []any { return list(archive.ParseSurvey(q.Text)) },
		"DrawTable":    func(q question) []any { return list(archive.DrawTable(q.T, q.K)) },
		"DrawTrajectory": func(q question) []any {
			return list(archive.DrawTrajectory(q.T, q.State, q.N, q.K))
		},
		"DrawOrigami": func(q question) []any { return list(archive.DrawOrigami(q.O)) },
		"Do":          func(q question) []any { return []any{archive.NewConsole().Do(q.Text)} },
	}
}

// questions returns questions to which most functions have answers.
func questions(t *testing.T) []question {
	l := results(t)
	thin, state := rootTable()
	s, _ := archive.Begin(4)
	s, _ = archive.Advance(s, 100)
	text, _ := archive.FormatSurvey(s)
	var all []question
	for i, r := range l {
		all = append(all, question{R: r, S: s, N: 1 + i%5, K: i, Text: textOf(r), O: ell(), T: square(), State: slantwise(), Results: l[i/2 : i]})
	}
	return append(all, question{R: l[0], S: s, N: 3, K: 5, Text: text, O: row(), T: thin, State: state, Results: l}, question{S: api.Survey{Squares: 1}, Text: "add " + ellText})
}

// cells notes the arrays of all lists in a value.
func cells(v reflect.Value, found map[uintptr]bool, twice func()) {
	switch v.Kind() {
	case reflect.Slice:
		if v.Cap() > 0 && v.Type().Elem().Size() > 0 {
			if found[v.Pointer()] {
				twice()
			}
			found[v.Pointer()] = true
		}
		for i := range v.Len() {
			cells(v.Index(i), found, twice)
		}
	case reflect.Struct:
		for i := range v.NumField() {
			cells(v.Field(i), found, twice)
		}
	case reflect.Interface:
		cells(v.Elem(), found, twice)
	}
}

// overwrite writes into all lists of a result.
func overwrite(v reflect.Value) {
	switch v.Kind() {
	case reflect.Slice:
		for i := range v.Len() {
			overwrite(v.Index(i))
		}
	case reflect.Struct:
		for i := range v.NumField() {
			overwrite(v.Field(i))
		}
	case reflect.Interface:
		overwrite(v.Elem())
	case reflect.Int:
		if v.CanSet() {
			v.SetInt(-7)
		}
	}
}

// R3: arguments are neither changed nor part of results, and no two lists of a result share memory. R4: the results are the same each time.
func TestMemory(t *testing.T) {
	for _, c := range questions(t) {
		for name, call := range calls() {
			q := deep(c)
			before := whole(reflect.ValueOf(q))
			result := call(q)
			want(t, "the arguments behind "+name, whole(reflect.ValueOf(q)), before)
			found := map[uintptr]bool{}
			cells(reflect.ValueOf(q), found, func() {})
			cells(reflect.ValueOf(result), found, func() { t.Errorf("%s: lists share memory", name) })
			text := fmt.Sprint(result...)
			overwrite(reflect.ValueOf(result))
			want(t, name+" once more", fmt.Sprint(call(q)...), text)
		}
	}
}

// R3: what an archive keeps changes neither with the arguments nor with the results.
func TestKept(t *testing.T) {
	l := results(t)
	given := deep(l)
	a := archive.New()
	for _, r := range given {
		added, e := a.Add(r)
		wantAlike(t, "Add", added, e, true, api.OK)
		overwrite(reflect.ValueOf(r))
	}
	for range 2 {
		wantResults(t, "Results", a, l)
		for _, r := range l {
			overwrite(reflect.ValueOf(a.Results()))
			overwrite(reflect.ValueOf(a.Named(r.Name)))
		}
		overwrite(reflect.ValueOf(a.Kinds()))
	}
	want(t, "Kinds", fmt.Sprint(a.Kinds()), fmt.Sprint(filled(t, l...).Kinds()))
	// No list of one result is one of another result.
	found := map[uintptr]bool{}
	for range 2 {
		cells(reflect.ValueOf(a.Results()), found, func() { t.Errorf("results share memory") })
	}
}

// R3: a survey that is advanced shares nothing with the one before.
func TestSurveyKept(t *testing.T) {
	s, _ := archive.Begin(3)
	s, _ = archive.Advance(s, 20)
	next, _ := archive.Advance(s, 0)
	overwrite(reflect.ValueOf(s))
	want(t, "CheckSurvey of the further one", archive.CheckSurvey(next), api.OK)
	wantAlike(t, "the labels", next.Found, api.OK, foundOf(3, 0, 20), api.OK)
}

// R4: calls at the same time do not disturb each other, nor do archives.
func TestAtOnce(t *testing.T) {
	l := results(t)
	journal := filled(t, l...).Journal()
	done := make(chan string)
	for range 4 {
		go func() {
			a, _ := archive.Recover(journal)
			for _, r := range l {
				a.Add(r)
			}
			done <- a.Journal()
		}()
	}
	for range 4 {
		want(t, "the same journal", <-done, journal)
	}
}

// R5: a nil list and an empty one are the same.
func TestEmptyLists(t *testing.T) {
	for kind := range 10 {
		c := api.Claim{Kind: kind}
		filledIn := api.Claim{Kind: kind, Slots: []api.Slot{}, Rays: []api.Ray{}, From: origamiOf([]int{}, []int{}), To: origamiOf([]int{}, []int{}), List: []int{}, Lists: [][]int{}}
		filledIn.Table = api.Table{Field: api.Field{Poly: []int{}}, Corners: []api.Vec{}}
		filledIn.First = api.Surface{Faces: [][]api.Vec{}, Glue: [][]api.Slot{}}
		filledIn.State.T = api.Num{C: []api.Int{}, D: []int{}}
		filledIn.Orbit = api.Orbit{Labels: []api.Origami{}, S: []int{}, T: []int{}}
		filledIn.Rows = api.Rows{Top: []int{}, Bottom: []int{}}
		filledIn.Rate = api.Rate{Num: []int{}, Den: []int{}}
		want(t, "Verify", archive.Verify(filledIn), archive.Verify(c))
		text, e := archive.Format(api.Result{Name: "a", Author: "b", Claim: filledIn})
		right, f := archive.Format(api.Result{Name: "a", Author: "b", Claim: c})
		wantText(t, "Format", text, e, right, f)
	}
	zero := api.Claim{Kind: 9, List: []int{2}, Rate: api.Rate{Num: []int{}, Den: []int{1}}}
	want(t, "Verify of the weight 0", archive.Verify(zero), api.OK)
	none := api.Claim{Kind: 9, List: []int{}, Rate: api.Rate{Den: []int{1}}}
	want(t, "Verify of the weight of no squares", archive.Verify(none), api.OK)
	s := api.Survey{Squares: 2, Found: []api.Origami{}}
	want(t, "CheckSurvey", archive.CheckSurvey(s), api.OK)
}

// R2: no argument makes a function panic, and beside an error there is nothing.
func TestNoPanic(t *testing.T) {
	odd := []int{-most - 1, -large, -1, 0, 1, 2, 3, 5, 6, 60, 61, 100, 200, 100000, 100001, large, most}
	r := rand.New(rand.NewSource(9))
	number := func() int { return odd[r.Intn(len(odd))] }
	good := questions(t)
	for range 600 {
		q := deep(good[r.Intn(len(good))])
		spoil(r, reflect.ValueOf(&q.R.Claim).Elem(), number)
		spoil(r, reflect.ValueOf(&q.S).Elem(), number)
		spoil(r, reflect.ValueOf(&q.O).Elem(), number)
		spoil(r, reflect.ValueOf(&q.T).Elem(), number)
		spoil(r, reflect.ValueOf(&q.State).Elem(), number)
		q.N, q.K = number(), number()
		q.Text = spoiled(r, q.Text)
		for name, call := range calls() {
			result := call(q)
			last := len(result) - 1
			if e, ok := result[last].(api.Errno); ok && e != api.OK && last > 0 {
				for _, n := range items(reflect.ValueOf(result[0])) {
					want(t, "beside an error of "+name, n, 0)
				}
			}
		}
	}
	for _, call := range calls() {
		call(question{})
	}
}

// spoil changes some numbers and lists of a value.
func spoil(r *rand.Rand, v reflect.Value, number func() int) {
	switch v.Kind() {
	case reflect.Int:
		if r.Intn(40) == 0 {
			v.SetInt(int64(number()))
		}
	case reflect.Slice:
		if r.Intn(40) == 0 && v.Len() > 0 {
			v.Set(v.Slice(0, r.Intn(v.Len())))
		}
		if r.Intn(40) == 0 && v.Len() > 0 {
			v.Set(reflect.Append(v, v.Index(0)))
		}
		for i := range v.Len() {
			spoil(r, v.Index(i), number)
		}
	case reflect.Struct:
		for i := range v.NumField() {
			spoil(r, v.Field(i), number)
		}
	}
}

// spoiled changes some words of a text.
func spoiled(r *rand.Rand, s string) string {
	words := strings.Split(s, " ")
	for range r.Intn(3) {
		words[r.Intn(len(words))] = fmt.Sprint(r.Intn(5) - 1)
	}
	return strings.Join(words, " ")
}

// The examples of the whole system that belong to this chapter.
func TestWhole(t *testing.T) {
	c := archive.NewConsole()
	says(t, c, "begin 2", "0 of 4", "advance 4", "4 of 4: 3")
	// The figure of a periodic trajectory is closed up, and its claim is true.
	n, e := billiard.Period(square(), slantwise(), 200)
	wantAlike(t, "Period", n, e, 4, api.OK)
	text, e := archive.DrawTrajectory(square(), slantwise(), 2*n, 1)
	wantText(t, "DrawTrajectory", text, e, "M 1 0 L 2 1 L 1 2 L 0 1 L 1 0 L 2 1 L 1 2 L 0 1 L 1 0", api.OK)
	want(t, "Verify", archive.Verify(api.Claim{Table: square(), State: slantwise(), Count: n}), api.OK)
}
