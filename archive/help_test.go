package archive_test

import (
	"fmt"
	"maps"
	"reflect"
	"slices"
	"strconv"
	"strings"
	"testing"

	"flatland/api"
	"flatland/archive"
	"flatland/count"
	"flatland/cylinder"
	"flatland/exchange"
	"flatland/field"
	"flatland/homology"
	"flatland/orbit"
	"flatland/surface"
)

const most = int(^uint(0) >> 1)

// large is the size of the numbers in a text.
const large = 1000000000000000

// want checks a value that contains no lists.
func want[T comparable](t *testing.T, what string, a, b T) {
	t.Helper()
	if a != b {
		t.Errorf("%s: %v, want %v", what, a, b)
	}
}

// wantText checks a text and an error.
func wantText(t *testing.T, what, a string, e api.Errno, b string, f api.Errno) {
	t.Helper()
	if a != b || e != f {
		t.Errorf("%s: %q, %d, want %q, %d", what, a, e, b, f)
	}
}

// wantAlike checks a value with lists and an error; nil and empty lists are the same.
func wantAlike[T any](t *testing.T, what string, a T, e api.Errno, b T, f api.Errno) {
	t.Helper()
	if !alike(a, b) || e != f {
		t.Errorf("%s: %v, %d, want %v, %d", what, a, e, b, f)
	}
}

// alike reports whether two values of a type are the same; nil and empty lists are.
func alike[T any](a, b T) bool {
	return slices.Equal(items(reflect.ValueOf(a)), items(reflect.ValueOf(b)))
}

// must returns a result without an error.
func must[T any](t *testing.T) func(x T, e api.Errno) T {
	return func(x T, e api.Errno) T {
		t.Helper()
		if e != api.OK {
			t.Fatalf("%v, %d", x, e)
		}
		return x
	}
}

func ratio(a, b int) api.Num { x, _ := field.Ratio(a, b); return x }

func vec(x, y int) api.Vec { return api.Vec{X: field.Whole(x), Y: field.Whole(y)} }

func vecs(numbers ...int) []api.Vec {
	var l []api.Vec
	for i := 0; i < len(numbers); i += 2 {
		l = append(l, vec(numbers[i], numbers[i+1]))
	}
	return l
}

func table(corners ...int) api.Table {
	return api.Table{Field: field.Rational(), Corners: vecs(corners...)}
}

func square() api.Table { return table(0, 0, 1, 0, 1, 1, 0, 1) }

// slantwise is the state of the square whose code is 1, 2, 3, 0.
func slantwise() api.State { return api.State{T: ratio(1, 2), Dir: vec(1, 1)} }

// rootTable is a rectangle with the sides w and 1, w being the root of 2, and a state in it with the period 4.
func rootTable() (api.Table, api.State) {
	f, _ := field.Root(2)
	w := api.Num{C: []api.Int{nil, {1}}, D: []int{1}}
	corners := []api.Vec{{}, {X: w}, {X: w, Y: field.Whole(1)}, {Y: field.Whole(1)}}
	return api.Table{Field: f, Corners: corners}, api.State{T: ratio(1, 2), Dir: api.Vec{X: w, Y: field.Whole(1)}}
}

func origamiOf(right, up []int) api.Origami { return api.Origami{Right: right, Up: up} }

// ell is the L of three squares.
func ell() api.Origami { return origamiOf([]int{1, 0, 2}, []int{2, 1, 0}) }

// row is what the word ST makes of the L.
func row() api.Origami { return origamiOf([]int{1, 2, 0}, []int{1, 0, 2}) }

func one() api.Origami { return origamiOf([]int{0}, []int{0}) }

// ellSurface is the L with one face.
func ellSurface() api.Surface {
	s, _, _ := surface.Parse("surface 0,1 0 0 1\nface 1 0 1 0 0 1 -1 0 0 1 -1 0 0 -1 0 -1\nglue 0 5 0 3 0 7 0 1 0 6 0 0 0 4 0 2\n")
	return s
}

func torus() api.Surface {
	s, _, _ := surface.Parse("surface 0,1 0 0 1\nface 1 0 0 1 -1 0 0 -1\nglue 0 2 0 3 0 0 0 1\n")
	return s
}

// octagon is the surface of the regular octagon.
func octagon() api.Surface {
	s, _, _ := surface.Parse("surface -2,0,1 1 2 1\nface 2 0 0,1 0,1 0 2 0,-1 0,1 -2 0 0,-1 0,-1 0 -2 0,1 0,-1\nglue 0 4 0 5 0 6 0 7 0 0 0 1 0 2 0 3\n")
	return s
}

// truths returns claims of all kinds that are true, by names.
func truths(t *testing.T) map[string]api.Claim {
	t.Helper()
	thin, state := rootTable()
	rows := api.Rows{Top: []int{0, 1, 2, 3}, Bottom: []int{3, 2, 1, 0}}
	_, path, e := exchange.Follow(rows, []int{0, 1, 1, 0})
	want(t, "Follow", e, api.OK)
	_, none, e := exchange.Follow(rows, nil)
	want(t, "Follow of no kinds", e, api.OK)
	traces := func(s api.Surface, bound int) []api.Ray {
		return must[[]api.Ray](t)(cylinder.Traces(s, vec(1, 0), field.Whole(bound)))
	}
	return map[string]api.Claim{
		"period":         {Kind: 0, Count: 4, Table: square(), State: slantwise()},
		"period of w":    {Kind: 0, Count: 4, Table: thin, State: state},
		"match":          {Kind: 1, First: torus(), Second: torus(), Slots: []api.Slot{{Face: 0, Edge: 0}}},
		"match of w":     {Kind: 1, First: octagon(), Second: octagon(), Slots: must[[]api.Slot](t)(surface.Match(octagon(), octagon()))},
		"traces":         {Kind: 2, First: ellSurface(), Dir: vec(1, 0), Rays: traces(ellSurface(), 5)},
		"open traces":    {Kind: 2, First: ellSurface(), Dir: vec(1, 0), Rays: traces(ellSurface(), 0)},
		"traces of w":    {Kind: 2, First: octagon(), Dir: vec(1, 0), Rays: traces(octagon(), 9)},
		"isomorphism":    {Kind: 3, From: ell(), To: ell(), List: []int{0, 1, 2}},
		"renumbering":    {Kind: 3, From: ell(), To: origamiOf([]int{0, 2, 1}, []int{1, 0, 2}), List: []int{1, 2, 0}},
		"covering":       {Kind: 4, From: ell(), To: one(), List: []int{0, 0, 0}},
		"word":           {Kind: 5, From: ell(), To: row(), Word: "ST", List: []int{0, 1, 2}},
		"empty word":     {Kind: 5, From: ell(), To: ell(), List: []int{0, 1, 2}},
		"orbit":          {Kind: 6, Orbit: must[api.Orbit](t)(orbit.Enumerate(ell()))},
		"basis":          {Kind: 7, From: ell(), Lists: must[[][]int](t)(homology.Symplectic(ell()))},
		"path":           {Kind: 8, Rows: rows, List: []int{0, 1, 1, 0}, Lists: path},
		"path of none":   {Kind: 8, Rows: rows, Lists: none},
		"weight":         {Kind: 9, List: []int{3, 1}, Rate: api.Rate{Num: []int{9}, Den: []int{1}}},
		"weight 0":       {Kind: 9, List: []int{2}, Rate: api.Rate{Den: []int{1}}},
		"great weight":   {Kind: 9, List: []int{9, 7, 3, 1}, Rate: must[api.Rate](t)(count.Weight([]int{9, 7, 3, 1}))},
		"weight of tori": {Kind: 9, List: []int{1, 1, 1, 1, 1, 1}, Rate: api.Rate{Num: []int{2}, Den: []int{1}}},
	}
}

// sortedNames returns the names of a map, in order.
func sortedNames[T any](m map[string]T) []string { return slices.Sorted(maps.Keys(m)) }

// results returns a result for each true claim, in the order of their names.
func results(t *testing.T) []api.Result {
	t.Helper()
	claims := truths(t)
	var l []api.Result
	for i, what := range sortedNames(claims) {
		l = append(l, api.Result{Name: fmt.Sprintf("r%d", i%7), Author: "ann", Number: 1000000 - i, Claim: claims[what]})
	}
	return l
}

// ellResult is the result of the first example.
func ellResult() api.Result {
	return api.Result{Name: "ell", Author: "ann", Number: 7, Claim: api.Claim{Kind: 3, From: ell(), To: ell(), List: []int{0, 1, 2}}}
}

const ellText = "result ell ann 7 3 3 1 0 2 3 2 1 0 3 1 0 2 3 2 1 0 3 0 1 2"

// filled returns an archive to which results were added.
func filled(t *testing.T, l ...api.Result) *archive.Archive {
	t.Helper()
	a := archive.New()
	for i, r := range l {
		added, e := a.Add(r)
		if !added || e != api.OK {
			t.Fatalf("Add of the result %d: %v, %d", i, added, e)
		}
	}
	return a
}

// fieldsOf names the fields of a kind, in the order of the document's table.
func fieldsOf(kind int) []string {
	return strings.Fields([]string{
		"Count Table State",
		"First Second Slots",
		"First Dir Rays",
		"From To List",
		"From To List",
		"From To Word List",
		"Orbit",
		"From Lists",
		"Rows List Lists",
		"List Rate",
	}[kind])
}

// items returns the numbers of a value, as the document lists them.
func items(v reflect.Value) []int {
	var l []int
	switch v.Kind() {
	case reflect.Int:
		return []int{int(v.Int())}
	case reflect.Bool:
		if v.Bool() {
			return []int{1}
		}
		return []int{0}
	case reflect.String:
		l = append(l, v.Len())
		for _, b := range []byte(v.String()) {
			l = append(l, int(b))
		}
	case reflect.Slice:
		l = append(l, v.Len())
		for i := range v.Len() {
			l = append(l, items(v.Index(i))...)
		}
	case reflect.Struct:
		for i := range v.NumField() {
			l = append(l, items(v.Field(i))...)
		}
	}
	return l
}

// claimItems returns the numbers of the fields of the kind of a claim.
func claimItems(c api.Claim) []int {
	var l []int
	for _, name := range fieldsOf(c.Kind) {
		l = append(l, items(reflect.ValueOf(c).FieldByName(name))...)
	}
	return l
}

// textOf returns the text of a result, whatever it is, by the definition alone.
func textOf(r api.Result) string {
	text := fmt.Appendf(nil, "result %s %s %d %d", r.Name, r.Author, r.Number, r.Claim.Kind)
	for _, n := range claimItems(r.Claim) {
		text = fmt.Appendf(text, " %d", n)
	}
	return string(text)
}

// bare returns a result with the fields of its kind alone.
func bare(r api.Result) api.Result {
	c := api.Claim{Kind: r.Claim.Kind}
	for _, name := range fieldsOf(c.Kind) {
		reflect.ValueOf(&c).Elem().FieldByName(name).Set(reflect.ValueOf(r.Claim).FieldByName(name))
	}
	r.Claim = c
	return r
}

// lineOf returns the line of a text in a journal, by the definition alone.
func lineOf(text string) string {
	sum := 5
	for _, b := range []byte(text) {
		sum = (31*sum + int(b)) % 65521
	}
	return text + " #" + strconv.Itoa(sum) + "\n"
}

// sortedTexts returns the texts of results, ascending.
func sortedTexts(l []api.Result) []string {
	var texts []string
	for _, r := range l {
		texts = append(texts, textOf(r))
	}
	slices.Sort(texts)
	return texts
}

// wantResults checks that results are those of an archive.
func wantResults(t *testing.T, what string, a *archive.Archive, l []api.Result) {
	t.Helper()
	want(t, what, strings.Join(sortedTexts(a.Results()), "\n"), strings.Join(sortedTexts(l), "\n"))
}

// deep returns a copy that shares no memory; its lists have room for more elements, where something might be written.
func deep[T any](x T) T { return deepValue(reflect.ValueOf(&x).Elem()).Interface().(T) }

func deepValue(v reflect.Value) reflect.Value {
	c := reflect.New(v.Type()).Elem()
	switch v.Kind() {
	case reflect.Slice:
		if v.IsNil() {
			return c
		}
		c.Set(reflect.MakeSlice(v.Type(), v.Len(), v.Len()+3))
		for i := range v.Len() {
			c.Index(i).Set(deepValue(v.Index(i)))
		}
	case reflect.Struct:
		for i := range v.NumField() {
			c.Field(i).Set(deepValue(v.Field(i)))
		}
	default:
		c.Set(v)
	}
	return c
}

// whole writes a value with all that its lists have room for.
func whole(v reflect.Value) string {
	var text strings.Builder
	switch v.Kind() {
	case reflect.Slice:
		text.WriteString("[")
		all := v.Slice(0, v.Cap())
		for i := range all.Len() {
			text.WriteString(whole(all.Index(i)))
		}
		text.WriteString("]")
	case reflect.Struct:
		for i := range v.NumField() {
			text.WriteString(whole(v.Field(i)))
		}
	default:
		fmt.Fprintf(&text, "%v ", v)
	}
	return text.String()
}
