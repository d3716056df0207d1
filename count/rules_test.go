package count_test

import (
	"fmt"
	"math/rand"
	"reflect"
	"slices"
	"strings"
	"testing"

	"flatland/api"
	"flatland/count"
)

// question is the arguments of all functions.
type question struct {
	P, C   []int // partitions
	K, N   int
	F      []int // a permutation
	Orders []int
}

func list[T any](x T, e api.Errno) []any { return []any{x, e} }

// ofPartitions returns the functions with a partition, as functions of a question; they return all their results.
func ofPartitions() map[string]func(q question) []any {
	return map[string]func(q question) []any{
		"CheckPartition": func(q question) []any { return []any{count.CheckPartition(q.P)} },
		"Conjugate":      func(q question) []any { return list(count.Conjugate(q.P)) },
		"Hooks":          func(q question) []any { return list(count.Hooks(q.P)) },
		"Dimension":      func(q question) []any { return list(count.Dimension(q.P)) },
		"Centralizer":    func(q question) []any { return list(count.Centralizer(q.P)) },
		"ClassSize":      func(q question) []any { return list(count.ClassSize(q.P)) },
		"RimHooks":       func(q question) []any { return list(count.RimHooks(q.P, q.K)) },
		"Character":      func(q question) []any { return list(count.Character(q.P, q.C)) },
		"Force":          func(q question) []any { return list(count.Force(q.P)) },
		"Pairs":          func(q question) []any { return list(count.Pairs(q.P)) },
		"Connected":      func(q question) []any { return list(count.Connected(q.P)) },
		"Weight":         func(q question) []any { return list(count.Weight(q.P)) },
		"Classes":        func(q question) []any { return list(count.Classes(q.P)) },
		"Orders":         func(q question) []any { return list(count.Orders(q.P)) },
		"Genus":          func(q question) []any { return list(count.Genus(q.P)) },
	}
}

// calls returns all functions.
func calls() map[string]func(q question) []any {
	all := map[string]func(q question) []any{
		"Partitions": func(q question) []any { return list(count.Partitions(q.N)) },
		"Table":      func(q question) []any { return list(count.Table(q.N)) },
		"CycleType":  func(q question) []any { return list(count.CycleType(q.F)) },
		"Stratum":    func(q question) []any { return list(count.Stratum(q.N, q.Orders)) },
		"Tori":       func(q question) []any { return list(count.Tori(q.N)) },
		"Primitive":  func(q question) []any { return list(count.Primitive(q.N)) },
	}
	for name, call := range ofPartitions() {
		all[name] = call
	}
	return all
}

// questions returns questions to which all functions have answers.
func questions() []question {
	return []question{
		{P: []int{3, 1}, C: []int{2, 2}, K: 2, N: 5, F: []int{1, 2, 0, 3}, Orders: []int{0, 2}},
		{P: []int{2, 2, 1}, C: []int{2, 2, 1}, K: 3, N: 10, F: []int{0}, Orders: []int{1, 3}},
		{P: []int{5}, C: ones(5), K: 1, N: 3, F: rand.New(rand.NewSource(12)).Perm(20), Orders: []int{2}},
		{P: ones(5), C: []int{5}, K: 5, N: 2},
	}
}

// cells notes the arrays of all lists in a value.
func cells(v reflect.Value, found map[uintptr]bool, twice func()) {
	switch v.Kind() {
	case reflect.Slice:
		if v.Cap() > 0 {
			if found[v.Pointer()] {
				twice()
			}
			found[v.Pointer()] = true
		}
		for i := range v.Len() {
			cells(v.Index(i), found, twice)
		}
	case reflect.Struct:
		for i := range v.NumField() {
			cells(v.Field(i), found, twice)
		}
	case reflect.Interface:
		cells(v.Elem(), found, twice)
	}
}

// deep returns a copy that shares no memory; its lists have room for more elements, where something might be written.
func deep(q question) question {
	for _, l := range []*[]int{&q.P, &q.C, &q.F, &q.Orders} {
		if *l != nil {
			*l = append(make([]int, 0, len(*l)+5), *l...)
		}
	}
	return q
}

// whole returns the lists of a question with all that they have room for.
func whole(q question) string {
	return fmt.Sprint(q.P[:cap(q.P)], q.C[:cap(q.C)], q.F[:cap(q.F)], q.Orders[:cap(q.Orders)])
}

// R3: arguments are neither changed nor part of results, and no two lists of a result share memory. R4: the results are the same each time.
func TestMemory(t *testing.T) {
	for _, c := range questions() {
		for name, call := range calls() {
			q := deep(c)
			before := whole(q)
			result := call(q)
			want(t, "the arguments behind "+name, whole(q), before)
			found := map[uintptr]bool{}
			cells(reflect.ValueOf(q), found, func() {})
			cells(reflect.ValueOf(result), found, func() { t.Errorf("%s: lists share memory", name) })
			text := fmt.Sprint(result)
			overwrite(reflect.ValueOf(result))
			want(t, name+" once more", fmt.Sprint(call(q)), text)
			want(t, name+" has an answer", result[len(result)-1].(api.Errno), api.OK)
		}
	}
}

// overwrite writes into all lists of a result.
func overwrite(v reflect.Value) {
	switch v.Kind() {
	case reflect.Slice:
		for i := range v.Len() {
			overwrite(v.Index(i))
		}
	case reflect.Struct:
		for i := range v.NumField() {
			overwrite(v.Field(i))
		}
	case reflect.Interface:
		overwrite(v.Elem())
	case reflect.Int:
		if v.CanSet() {
			v.SetInt(-7)
		}
	}
}

// R4: calls at the same time do not disturb each other.
func TestAtOnce(t *testing.T) {
	c := []int{4, 3, 3, 2, 2, 1, 1, 1, 1, 1, 1}
	right, _ := count.Connected(c)
	done := make(chan []int)
	for range 4 {
		go func() {
			n, _ := count.Connected(c)
			done <- n
		}()
	}
	for range 4 {
		want(t, "the same number", slices.Equal(<-done, right), true)
	}
}

// wantError checks that a call returned an error and nothing else.
func wantError(t *testing.T, what string, result []any, e api.Errno) {
	t.Helper()
	last := len(result) - 1
	want(t, what, result[last].(api.Errno), e)
	for _, x := range result[:last] {
		if v := reflect.ValueOf(x); !isEmpty(v) {
			t.Errorf("%s: %v beside the error", what, x)
		}
	}
}

// isEmpty reports whether a value is the zero value; nil and empty lists are the same.
func isEmpty(v reflect.Value) bool {
	switch v.Kind() {
	case reflect.Slice:
		return v.Len() == 0
	case reflect.Struct:
		for i := range v.NumField() {
			if !isEmpty(v.Field(i)) {
				return false
			}
		}
		return true
	}
	return v.IsZero()
}

// R1: the errors of partitions come first, whatever the other arguments are; beside an error there is nothing.
func TestPartitionErrorsFirst(t *testing.T) {
	for what, c := range badPartitions() {
		for name, call := range ofPartitions() {
			for _, q := range []question{{K: 2}, {K: -1, C: []int{0}}, {K: 21, C: ones(21)}} {
				q.P = c.p
				wantError(t, name+" of "+what, call(q), c.e)
			}
		}
	}
}

// R1: beside the errors of other arguments there is nothing, either.
func TestNothingBesideErrors(t *testing.T) {
	for name, call := range calls() {
		for _, c := range []struct {
			change func(q *question)
			names  string
			e      api.Errno
		}{
			{func(q *question) { q.K = 0 }, "RimHooks", api.ErrRange},
			{func(q *question) { q.C = []int{0} }, "Character", api.ErrRange},
			{func(q *question) { q.C = []int{1, 3} }, "Character", api.ErrOrder},
			{func(q *question) { q.C = []int{3} }, "Character", api.ErrShape},
			{func(q *question) { q.P = []int{7} }, "Force Classes", api.ErrLarge},
			{func(q *question) { q.P = []int{3, 3} }, "Force", api.ErrLarge},
			{func(q *question) { q.P = []int{3, 2} }, "Genus", api.ErrForm},
			{func(q *question) { q.N = -1 }, "Partitions Table Stratum Tori Primitive", api.ErrRange},
			{func(q *question) { q.N = most }, "Partitions Table Stratum Tori Primitive", api.ErrRange},
			{func(q *question) { q.F = make([]int, 21) }, "CycleType", api.ErrLarge},
			{func(q *question) { q.F = []int{0, 2} }, "CycleType", api.ErrForm},
			{func(q *question) { q.Orders = []int{2, -1} }, "Stratum", api.ErrRange},
			{func(q *question) { q.Orders = []int{2, 2} }, "Stratum", api.ErrShape},
			{func(q *question) { q.Orders = []int{3} }, "Stratum", api.ErrForm},
		} {
			if q := deep(questions()[0]); strings.Contains(" "+c.names+" ", " "+name+" ") {
				c.change(&q)
				wantError(t, name, call(q), c.e)
			}
		}
	}
}

// R5: a nil list and an empty one are the same; all functions have answers to them.
func TestNil(t *testing.T) {
	empty := []int{}
	for name, call := range calls() {
		a := call(question{K: 1, N: 3})
		b := call(question{P: empty, C: empty, K: 1, N: 3, F: empty, Orders: empty})
		want(t, name+" of nil and of empty lists", fmt.Sprint(a), fmt.Sprint(b))
		want(t, name+" of empty lists", a[len(a)-1].(api.Errno), api.OK)
	}
}

// R2: no argument makes a function panic.
func TestNoPanic(t *testing.T) {
	odd := []int{-most - 1, -1000000, -1, 0, 1, 2, 3, 6, 19, 20, 21, 63, 64, 1000, 1001, most}
	r := rand.New(rand.NewSource(13))
	number := func() int { return odd[r.Intn(len(odd))] }
	some := func() []int {
		switch r.Intn(4) {
		case 0:
			return randomPartition(r, r.Intn(23))
		case 1:
			return r.Perm(r.Intn(23))
		}
		l := make([]int, r.Intn(25))
		for i := range l {
			l[i] = number()
			if r.Intn(3) > 0 {
				l[i] = r.Intn(4)
			}
		}
		return l
	}
	for range 300 {
		q := question{P: some(), C: some(), K: number(), N: number(), F: some(), Orders: some()}
		if r.Intn(3) == 0 {
			q.C = randomPartition(r, total(q.P)%21+1)
		}
		for _, call := range calls() {
			call(q)
		}
	}
	for _, call := range calls() {
		call(question{})
	}
}
