package archive_test

import (
	"fmt"
	"reflect"
	"slices"
	"strings"
	"testing"

	"flatland/api"
	"flatland/archive"
	"flatland/billiard"
	"flatland/count"
	"flatland/cylinder"
	"flatland/exchange"
	"flatland/field"
	"flatland/homology"
	"flatland/orbit"
	"flatland/origami"
	"flatland/surface"
)

// P10.1: true claims of all kinds are accepted.
func TestVerifyTrue(t *testing.T) {
	var kinds [10]int
	for what, c := range truths(t) {
		want(t, "Verify of "+what, archive.Verify(c), api.OK)
		kinds[c.Kind]++
	}
	want(t, "a kind without a claim", slices.Contains(kinds[:], 0), false)
}

// P10.1: there are the kinds 0 to 9.
func TestVerifyKinds(t *testing.T) {
	for _, kind := range []int{-1, 10, 11, most, -most - 1} {
		c := truths(t)["isomorphism"]
		c.Kind = kind
		want(t, fmt.Sprintf("Verify of the kind %d", kind), archive.Verify(c), api.ErrRange)
	}
	want(t, "Verify of the empty claim", archive.Verify(api.Claim{}), billiard.Check(api.Table{}))
}

// changed returns a claim with a change.
func changed(c api.Claim, change func(c *api.Claim)) api.Claim {
	c = deep(c)
	change(&c)
	return c
}

// P10.1: claims that are not true, with the errors of their checks, the first ones first.
func TestVerifyFalse(t *testing.T) {
	claims := truths(t)
	for _, x := range []struct {
		what, why string
		change    func(c *api.Claim)
		e         api.Errno
	}{
		{"period", "no field", func(c *api.Claim) { c.Table.Field.Den = 0 }, api.ErrRange},
		{"period", "two corners", func(c *api.Claim) { c.Table.Corners = c.Table.Corners[:2]; c.State.Side = 9 }, api.ErrShape},
		{"period", "clockwise", func(c *api.Claim) { slices.Reverse(c.Table.Corners) }, api.ErrForm},
		{"period", "no such side", func(c *api.Claim) { c.State.Side = 4; c.Count = 0 }, api.ErrMissing},
		{"period", "at a corner", func(c *api.Claim) { c.State.T = field.Whole(1) }, api.ErrRange},
		{"period", "to the outside", func(c *api.Claim) { c.State.Dir = vec(1, -1) }, api.ErrForm},
		{"period", "no hits", func(c *api.Claim) { c.Count = 0 }, api.ErrRange},
		{"period", "too many hits", func(c *api.Claim) { c.Count = 201 }, api.ErrRange},
		{"period", "a corner is hit", func(c *api.Claim) { c.State.Dir = vec(1, 2) }, api.ErrCorner},
		{"period", "too few hits", func(c *api.Claim) { c.Count = 3 }, api.ErrOpen},
		{"period", "twice the period", func(c *api.Claim) { c.Count = 8 }, api.ErrProof},
		{"period", "some more hits", func(c *api.Claim) { c.Count = 5 }, api.ErrProof},
		{"match", "no faces", func(c *api.Claim) { c.First.Faces = nil }, api.ErrShape},
		{"match", "the second one has no field", func(c *api.Claim) { c.Second.Field.Poly = nil }, api.ErrShape},
		{"match", "first the first one", func(c *api.Claim) { c.First.Glue[0][0].Edge = 0; c.Second.Faces = nil }, api.ErrGlue},
		{"match", "another edge", func(c *api.Claim) { c.Slots[0].Edge = 1 }, api.ErrProof},
		{"match", "no slots", func(c *api.Claim) { c.Slots = nil }, api.ErrProof},
		{"match", "another surface", func(c *api.Claim) { c.Second = ellSurface() }, api.ErrProof},
		{"traces", "no faces", func(c *api.Claim) { c.First.Faces = nil; c.Dir = vec(0, 0) }, api.ErrShape},
		{"traces", "no direction", func(c *api.Claim) { c.Dir = vec(0, 0); c.Rays = nil }, api.ErrZero},
		{"traces", "another direction", func(c *api.Claim) { c.Dir = vec(0, 1) }, api.ErrProof},
		{"traces", "a ray less", func(c *api.Claim) { c.Rays = c.Rays[1:] }, api.ErrProof},
		{"traces", "another end", func(c *api.Claim) { c.Rays[1].To.Edge = 0 }, api.ErrProof},
		{"traces", "too long", func(c *api.Claim) { c.Rays[0].T = field.Whole(2) }, api.ErrProof},
		{"traces", "open with an end", func(c *api.Claim) { c.Rays[0].Open = true }, api.ErrProof},
		{"isomorphism", "no squares", func(c *api.Claim) { c.From = api.Origami{}; c.To.Up = nil }, api.ErrShape},
		{"isomorphism", "no permutation", func(c *api.Claim) { c.To.Up[0] = 1 }, api.ErrForm},
		{"isomorphism", "a square less", func(c *api.Claim) { c.To = one() }, api.ErrShape},
		{"isomorphism", "a list less", func(c *api.Claim) { c.List = nil }, api.ErrShape},
		{"isomorphism", "no square", func(c *api.Claim) { c.List[2] = 3 }, api.ErrRange},
		{"isomorphism", "another list", func(c *api.Claim) { c.List = []int{1, 0, 2} }, api.ErrProof},
		{"covering", "too many squares", func(c *api.Claim) { c.From = origamiOf(make([]int, 61), make([]int, 61)) }, api.ErrLarge},
		{"covering", "a longer list", func(c *api.Claim) { c.List = make([]int, 4) }, api.ErrShape},
		{"covering", "no square", func(c *api.Claim) { c.List[0] = 1 }, api.ErrRange},
		{"covering", "not all squares", func(c *api.Claim) { c.From, c.To, c.List = one(), origamiOf([]int{0, 1}, []int{0, 1}), []int{0} }, api.ErrProof},
		{"word", "no permutation, no letter", func(c *api.Claim) { c.From.Right[0] = 7; c.Word = "SU" }, api.ErrRange},
		{"word", "too long", func(c *api.Claim) { c.Word = strings.Repeat("S", 201); c.To = api.Origami{} }, api.ErrLarge},
		{"word", "no letter", func(c *api.Claim) { c.Word = "SU"; c.To = api.Origami{} }, api.ErrSyntax},
		{"word", "no squares", func(c *api.Claim) { c.To = api.Origami{} }, api.ErrShape},
		{"word", "a shorter list", func(c *api.Claim) { c.List = c.List[1:] }, api.ErrShape},
		{"word", "no square", func(c *api.Claim) { c.List[1] = -1 }, api.ErrRange},
		{"word", "a covering", func(c *api.Claim) { c.To, c.List = one(), []int{0, 0, 0} }, api.ErrShape},
		{"word", "another word", func(c *api.Claim) { c.Word = "TS" }, api.ErrProof},
		{"orbit", "no labels", func(c *api.Claim) { c.Orbit.Labels = nil }, api.ErrShape},
		{"orbit", "descending", func(c *api.Claim) { slices.Reverse(c.Orbit.Labels) }, api.ErrOrder},
		{"orbit", "no label", func(c *api.Claim) { c.Orbit.Labels[0] = ell() }, api.ErrForm},
		{"orbit", "no member", func(c *api.Claim) { c.Orbit.T[2] = 3 }, api.ErrRange},
		{"orbit", "another image", func(c *api.Claim) { c.Orbit.S[0] = 1 }, api.ErrProof},
		{"basis", "no squares", func(c *api.Claim) { c.From = api.Origami{} }, api.ErrShape},
		{"basis", "41 cycles", func(c *api.Claim) { c.Lists = make([][]int, 41) }, api.ErrLarge},
		{"basis", "a short chain", func(c *api.Claim) { c.Lists[3] = nil }, api.ErrShape},
		{"basis", "a great number", func(c *api.Claim) { c.Lists[0][0] = 1000001 }, api.ErrRange},
		{"basis", "in another order", func(c *api.Claim) { c.Lists[0], c.Lists[1] = c.Lists[1], c.Lists[0] }, api.ErrProof},
		{"basis", "too few", func(c *api.Claim) { c.Lists = c.Lists[:2] }, api.ErrProof},
		{"path", "a letter less", func(c *api.Claim) { c.Rows.Top = c.Rows.Top[1:] }, api.ErrShape},
		{"path", "reducible", func(c *api.Claim) { c.Rows.Bottom = []int{0, 3, 2, 1} }, api.ErrForm},
		{"path", "61 kinds", func(c *api.Claim) { c.List = make([]int, 61); c.List[0] = 2 }, api.ErrLarge},
		{"path", "no kind", func(c *api.Claim) { c.List[3] = 2 }, api.ErrRange},
		{"path", "another number", func(c *api.Claim) { c.Lists[3][3]++ }, api.ErrProof},
		{"path", "a column more", func(c *api.Claim) { c.Lists[0] = append(c.Lists[0], 0) }, api.ErrProof},
		{"path", "a row less", func(c *api.Claim) { c.Lists = c.Lists[:3] }, api.ErrProof},
		{"path of none", "no matrix", func(c *api.Claim) { c.Lists = nil }, api.ErrProof},
		{"weight", "21 parts", func(c *api.Claim) { c.List = make([]int, 21) }, api.ErrLarge},
		{"weight", "a part 0", func(c *api.Claim) { c.List[1] = 0 }, api.ErrRange},
		{"weight", "ascending", func(c *api.Claim) { c.List = []int{1, 3} }, api.ErrOrder},
		{"weight", "another numerator", func(c *api.Claim) { c.Rate.Num[0] = 8 }, api.ErrProof},
		{"weight", "another denominator", func(c *api.Claim) { c.Rate.Den[0] = 2 }, api.ErrProof},
		{"weight", "no lowest terms", func(c *api.Claim) { c.Rate = api.Rate{Num: []int{18}, Den: []int{2}} }, api.ErrProof},
		{"weight", "no normal numerator", func(c *api.Claim) { c.Rate.Num = []int{9, 0} }, api.ErrProof},
		{"weight", "no normal denominator", func(c *api.Claim) { c.Rate.Den = []int{1, 0} }, api.ErrProof},
		{"weight 0", "no normal numerator", func(c *api.Claim) { c.Rate.Num = []int{0} }, api.ErrProof},
		{"weight 0", "no denominator", func(c *api.Claim) { c.Rate.Den = nil }, api.ErrProof},
	} {
		want(t, "Verify of "+x.what+": "+x.why, archive.Verify(changed(claims[x.what], x.change)), x.e)
	}
}

// checked is the check of a claim by the document's table.
func checked(c api.Claim) api.Errno {
	equal := func(e api.Errno, a, b any) api.Errno {
		if e == api.OK && !slices.Equal(items(reflect.ValueOf(a)), items(reflect.ValueOf(b))) {
			return api.ErrProof
		}
		return e
	}
	switch c.Kind {
	case 0:
		n, e := billiard.Period(c.Table, c.State, c.Count)
		return equal(e, n, c.Count)
	case 1:
		return surface.CheckMatch(c.First, c.Second, c.Slots)
	case 2:
		return cylinder.CheckTraces(c.First, c.Dir, c.Rays)
	case 3:
		return origami.CheckIsomorphism(c.From, c.To, c.List)
	case 4:
		return origami.CheckCovering(c.From, c.To, c.List)
	case 5:
		o, e := orbit.Act(c.From, c.Word)
		if e != api.OK {
			return e
		}
		return origami.CheckIsomorphism(o, c.To, c.List)
	case 6:
		return orbit.CheckOrbit(c.Orbit)
	case 7:
		return homology.CheckSymplectic(c.From, c.Lists)
	case 8:
		_, m, e := exchange.Follow(c.Rows, c.List)
		return equal(e, m, c.Lists)
	case 9:
		w, e := count.Weight(c.List)
		return equal(e, w, c.Rate)
	}
	return api.ErrRange
}

// P10.1: whatever the numbers of a claim are, the check of its kind decides.
func TestVerifyAll(t *testing.T) {
	claims := truths(t)
	refused := 0
	for _, what := range sortedNames(claims) {
		words := strings.Fields(textOf(api.Result{Name: "x", Author: "x", Claim: claims[what]}))
		for i := 5; i < len(words); i++ {
			for _, word := range []string{"0", "1", "-1", "3", "100000000", "1000000000000000"} {
				other := slices.Clone(words)
				other[i] = word
				r, e := archive.Parse(strings.Join(other, " "))
				if e == api.OK {
					e := checked(r.Claim)
					want(t, what+": "+strings.Join(other, " "), archive.Verify(r.Claim), e)
					if e != api.OK {
						refused++
					}
				}
			}
		}
	}
	if refused < 500 {
		t.Errorf("only %d claims are refused", refused)
	}
}

// P10.1: fields that are not named for a kind are not looked at.
func TestVerifyOtherFields(t *testing.T) {
	claims := truths(t)
	var all api.Claim // the fields of false claims
	all.Count, all.Word = -7, "no word"
	all.Table.Corners = vecs(1, 2)
	all.State.Side = -1
	all.First.Glue, all.Second.Faces = [][]api.Slot{nil}, [][]api.Vec{nil}
	all.Slots, all.Rays = make([]api.Slot, 3), make([]api.Ray, 100)
	all.Dir = api.Vec{X: api.Num{C: []api.Int{{most}}}}
	all.From, all.To = origamiOf([]int{5}, nil), origamiOf(nil, []int{-1})
	all.List, all.Lists = []int{most, -most - 1}, [][]int{nil, {most}}
	all.Orbit.S, all.Rows.Top, all.Rate.Den = []int{9}, []int{-1}, []int{0, 0}
	for _, what := range sortedNames(claims) {
		c := all
		c.Kind = claims[what].Kind
		for _, name := range fieldsOf(c.Kind) {
			reflect.ValueOf(&c).Elem().FieldByName(name).Set(reflect.ValueOf(claims[what]).FieldByName(name))
		}
		want(t, "Verify of "+what+" with other fields", archive.Verify(c), api.OK)
		r := api.Result{Name: "a", Author: "b", Claim: c}
		want(t, "CheckResult of "+what+" with other fields", archive.CheckResult(r), api.OK)
		text, e := archive.Format(r)
		wantText(t, "Format of "+what+" with other fields", text, e, textOf(api.Result{Name: "a", Author: "b", Claim: claims[what]}), api.OK)
	}
}

// badNames are no names.
func badNames() []string {
	return []string{"", "1a", "-a", "a b", "a_b", "abcdefghijklm", " a", "a ", "a\n", "é", "aé", "a\x00", "[", "`", "@", "{", "a/", "a:", strings.Repeat("a", 100000)}
}

// P10.1: the errors of results, the first ones first.
func TestCheckResult(t *testing.T) {
	good := ellResult()
	for what, change := range map[string]func(r *api.Result){
		"the example":      func(r *api.Result) {},
		"the number 0":     func(r *api.Result) { r.Number = 0 },
		"the greatest one": func(r *api.Result) { r.Number = 1000000 },
		"short names":      func(r *api.Result) { r.Name, r.Author = "z", "Z" },
		"long names":       func(r *api.Result) { r.Name, r.Author = "a-0123456789", "ABCDEFGHIJKL" },
		"names of letters": func(r *api.Result) { r.Name, r.Author = "azAZ", "A---9" },
	} {
		r := good
		change(&r)
		want(t, "CheckResult of "+what, archive.CheckResult(r), api.OK)
	}
	for _, name := range badNames() {
		r := good
		r.Name, r.Number = name, -1
		want(t, fmt.Sprintf("CheckResult with the name %.20q", name), archive.CheckResult(r), api.ErrName)
		r.Name, r.Author, r.Claim.Kind = good.Name, name, 10
		want(t, fmt.Sprintf("CheckResult with the author %.20q", name), archive.CheckResult(r), api.ErrName)
	}
	for _, n := range []int{-1, 1000001, most, -most - 1} {
		r := good
		r.Number = n
		r.Claim.List = nil
		want(t, fmt.Sprintf("CheckResult with the number %d", n), archive.CheckResult(r), api.ErrRange)
	}
	r := good
	r.Claim.Kind = 10
	want(t, "CheckResult with the kind 10", archive.CheckResult(r), api.ErrRange)
	r.Claim.Kind, r.Claim.List = 3, []int{1, 0, 2}
	want(t, "CheckResult of a claim that is not true", archive.CheckResult(r), api.ErrProof)
}

// longPeriod is a true claim whose text is long: with so many zeros behind a number.
func longPeriod(t *testing.T, zeros int) api.Claim {
	c := deep(truths(t)["period"])
	c.State.T.D = append(slices.Clone(c.State.T.D), make([]int, zeros)...)
	return c
}

// P10.1: a true claim is refused if its numbers are too great or its text is too long; before that, a claim that is not true.
func TestCheckResultFormat(t *testing.T) {
	r := api.Result{Name: "long", Author: "ann", Claim: longPeriod(t, 0)}
	zeros := (20000 - len(textOf(r)) - 3) / 2 // 3 more digits tell how many there are
	for _, x := range []struct {
		zeros int
		e     api.Errno
	}{{zeros, api.OK}, {zeros + 1, api.ErrLarge}, {100000, api.ErrLarge}} {
		r.Claim = longPeriod(t, x.zeros)
		want(t, "Verify of a long claim", archive.Verify(r.Claim), api.OK)
		want(t, fmt.Sprintf("CheckResult with %d zeros", x.zeros), archive.CheckResult(r), x.e)
	}
	r.Claim.Count = 3
	want(t, "CheckResult of a long claim that is not true", archive.CheckResult(r), api.ErrOpen)
	// 1/2 with numbers out of range, which the field reads by their value.
	r.Claim = longPeriod(t, 0)
	r.Claim.State.T = api.Num{C: []api.Int{{2 * large}}, D: []int{4 * large}}
	want(t, "Verify of great numbers", archive.Verify(r.Claim), api.OK)
	want(t, "CheckResult of great numbers", archive.CheckResult(r), api.ErrRange)
	r.Claim.State.T = api.Num{C: []api.Int{{large / 2}}, D: []int{large}}
	want(t, "CheckResult of the greatest numbers", archive.CheckResult(r), api.OK)
}
