package archive_test

import (
	"fmt"
	"math/rand"
	"slices"
	"strings"
	"testing"

	"flatland/api"
	"flatland/archive"
	"flatland/count"
	"flatland/origami"
)

// pairCounts are the numbers of pairs of 0 to 5 squares.
var pairCounts = []int{0, 1, 4, 36, 576, 14400}

// permutations lists the permutations of 0 to n - 1 lexicographically.
func permutations(n int) [][]int {
	if n == 0 {
		return [][]int{nil}
	}
	var all [][]int
	for first := range n {
		for _, rest := range permutations(n - 1) {
			f := []int{first}
			for _, x := range rest {
				if x >= first {
					x++
				}
				f = append(f, x)
			}
			all = append(all, f)
		}
	}
	return all
}

// allPairs lists the pairs of n squares.
func allPairs(n int) []api.Origami {
	var all []api.Origami
	for _, right := range permutations(n) {
		for _, up := range permutations(n) {
			all = append(all, origamiOf(right, up))
		}
	}
	return all
}

// isOwnLabel reports whether an origami is connected and its own label, by the definition alone.
func isOwnLabel(o api.Origami) bool {
	n := len(o.Right)
	isOne := false // o is what some numbering makes
	for s := range n {
		numbers, order := map[int]int{s: 0}, []int{s}
		for i := 0; i < len(order); i++ {
			for _, y := range []int{o.Right[order[i]], o.Up[order[i]]} {
				if _, ok := numbers[y]; !ok {
					numbers[y] = len(order)
					order = append(order, y)
				}
			}
		}
		if len(order) < n {
			return false
		}
		made := make([]int, 2*n)
		for x := range n {
			made[numbers[x]] = numbers[o.Right[x]]
			made[n+numbers[x]] = numbers[o.Up[x]]
		}
		switch slices.Compare(made, slices.Concat(o.Right, o.Up)) {
		case -1:
			return false
		case 0:
			isOne = true
		}
	}
	return isOne
}

// foundOf returns what the pairs from one number to another one give, by the definition alone.
func foundOf(n, from, end int) []api.Origami {
	var found []api.Origami
	for _, o := range allPairs(n)[from:end] {
		if isOwnLabel(o) {
			found = append(found, o)
		}
	}
	return found
}

// P10.4: surveys begin at the pair 0.
func TestBegin(t *testing.T) {
	for n := 1; n <= 5; n++ {
		s, e := archive.Begin(n)
		wantAlike(t, fmt.Sprintf("Begin(%d)", n), s, e, api.Survey{Squares: n}, api.OK)
		want(t, "Done at the beginning", archive.Done(s), false)
		want(t, "CheckSurvey at the beginning", archive.CheckSurvey(s), api.OK)
	}
	for _, n := range []int{0, -1, 6, 7, 100, most, -most - 1} {
		s, e := archive.Begin(n)
		wantAlike(t, fmt.Sprintf("Begin(%d)", n), s, e, api.Survey{}, api.ErrRange)
	}
}

// P10.4: the survey of two squares, and all others to the end.
func TestAdvance(t *testing.T) {
	two := []api.Origami{{Right: []int{0, 1}, Up: []int{1, 0}}, {Right: []int{1, 0}, Up: []int{0, 1}}, {Right: []int{1, 0}, Up: []int{1, 0}}}
	s, _ := archive.Begin(2)
	for next := range 5 {
		wantAlike(t, "two squares", s, archive.CheckSurvey(s), api.Survey{Squares: 2, Next: next, Found: two[:max(0, next-1)]}, api.OK)
		want(t, "Done of two squares", archive.Done(s), next == 4)
		s, _ = archive.Advance(s, 1)
	}
	for n := 1; n <= 5; n++ {
		s, _ := archive.Begin(n)
		s, e := archive.Advance(s, 100000)
		wantAlike(t, fmt.Sprintf("all pairs of %d squares", n), s, e, api.Survey{Squares: n, Next: pairCounts[n], Found: foundOf(n, 0, pairCounts[n])}, api.OK)
		want(t, "the number of labels", len(s.Found), []int{0, 1, 3, 7, 26, 97}[n])
		want(t, "Done at the end", archive.Done(s), true)
		want(t, "CheckSurvey at the end", archive.CheckSurvey(s), api.OK)
		again, e := archive.Advance(s, 5)
		wantAlike(t, "behind the end", again, e, s, api.OK)
		for _, o := range s.Found {
			label, _, e := origami.Label(o)
			wantAlike(t, "a label", label, e, o, api.OK)
		}
	}
}

// P10.4, P10.7: behind the last pair Found has the labels of all connected origamis, which package count lists by their types.
func TestSurveyComplete(t *testing.T) {
	for n := 1; n <= 5; n++ {
		s, _ := archive.Begin(n)
		s, _ = archive.Advance(s, 14400)
		var labels []api.Origami
		for _, c := range must[[][]int](t)(count.Partitions(n)) {
			labels = append(labels, must[[]api.Origami](t)(count.Classes(c))...)
		}
		slices.SortFunc(labels, func(a, b api.Origami) int {
			return slices.Compare(slices.Concat(a.Right, a.Up), slices.Concat(b.Right, b.Up))
		})
		wantAlike(t, fmt.Sprintf("the labels of %d squares", n), s.Found, api.OK, labels, api.OK)
	}
}

// P10.4, P10.7: a survey does not depend on how its steps are divided.
func TestAdvanceDivided(t *testing.T) {
	r := rand.New(rand.NewSource(5))
	for n := 1; n <= 5; n++ {
		for range 6 {
			s, _ := archive.Begin(n)
			for !archive.Done(s) {
				steps := r.Intn(pairCounts[n]/3 + 2)
				before := s.Next
				s, _ = archive.Advance(s, steps)
				want(t, "Next", s.Next, min(pairCounts[n], before+steps))
				if n < 5 || r.Intn(3) == 0 {
					wantAlike(t, "Found", s.Found, archive.CheckSurvey(s), foundOf(n, 0, s.Next), api.OK)
				}
				text, e := archive.FormatSurvey(s)
				want(t, "FormatSurvey", e, api.OK)
				back, e := archive.ParseSurvey(text)
				wantAlike(t, "ParseSurvey", back, e, s, api.OK)
			}
			want(t, "the number of labels", len(s.Found), []int{0, 1, 3, 7, 26, 97}[n])
		}
	}
}

// P10.4: Found is not looked at, but what is found is added to it.
func TestAdvanceFound(t *testing.T) {
	odd := []api.Origami{{}, {Right: []int{5, -1}}, {Up: []int{most}}, ell()}
	s, e := archive.Advance(api.Survey{Squares: 3, Next: 10, Found: odd}, 20)
	wantAlike(t, "Advance", s, e, api.Survey{Squares: 3, Next: 30, Found: slices.Concat(odd, foundOf(3, 10, 30))}, api.OK)
	s, e = archive.Advance(api.Survey{Squares: 3, Next: 10, Found: odd}, 0)
	wantAlike(t, "Advance by no steps", s, e, api.Survey{Squares: 3, Next: 10, Found: odd}, api.OK)
	want(t, "Done with wrong labels", archive.Done(api.Survey{Squares: 1, Next: 1, Found: odd}), true)
	want(t, "Done without labels", archive.Done(api.Survey{Squares: 5, Next: 14400}), true)
	want(t, "Done before the end", archive.Done(api.Survey{Squares: 5, Next: 14399}), false)
}

// badSurveys are surveys with an error.
func badSurveys() []api.Survey {
	l := []api.Survey{{}, {Squares: 6}, {Squares: -1}, {Squares: most}, {Squares: -most - 1, Next: most}, {Squares: 6, Next: -1}}
	for n := 1; n <= 5; n++ {
		for _, next := range []int{-1, pairCounts[n] + 1, most, -most - 1} {
			l = append(l, api.Survey{Squares: n, Next: next})
		}
	}
	return l
}

// P10.4: the error of a survey comes first.
func TestSurveyErrors(t *testing.T) {
	for _, bad := range badSurveys() {
		bad.Found = []api.Origami{{Up: []int{most}}}
		what := fmt.Sprintf(" with %d squares at the pair %d", bad.Squares, bad.Next)
		for _, steps := range []int{0, 1, -1, 100001} {
			s, e := archive.Advance(bad, steps)
			wantAlike(t, "Advance"+what, s, e, api.Survey{}, api.ErrRange)
		}
		want(t, "Done"+what, archive.Done(bad), false)
		want(t, "CheckSurvey"+what, archive.CheckSurvey(bad), api.ErrRange)
		text, e := archive.FormatSurvey(bad)
		wantText(t, "FormatSurvey"+what, text, e, "", api.ErrRange)
		s, e := archive.ParseSurvey(fmt.Sprintf("survey %d %d 0", bad.Squares, bad.Next))
		wantAlike(t, "ParseSurvey"+what, s, e, api.Survey{}, api.ErrSyntax)
	}
	good, _ := archive.Begin(4)
	for _, steps := range []int{-1, 100001, most, -most - 1} {
		s, e := archive.Advance(good, steps)
		wantAlike(t, fmt.Sprintf("Advance by %d steps", steps), s, e, api.Survey{}, api.ErrRange)
	}
}

// P10.4: CheckSurvey accepts just what the pairs give, in their order.
func TestCheckSurvey(t *testing.T) {
	s, _ := archive.Begin(3)
	s, _ = archive.Advance(s, 30)
	for what, change := range map[string]func(s *api.Survey){
		"a label less":          func(s *api.Survey) { s.Found = s.Found[1:] },
		"a last label less":     func(s *api.Survey) { s.Found = s.Found[:len(s.Found)-1] },
		"no labels":             func(s *api.Survey) { s.Found = nil },
		"a label twice":         func(s *api.Survey) { s.Found = append(s.Found, s.Found[0]) },
		"one of a later pair":   func(s *api.Survey) { s.Next = 13 },
		"in another order":      func(s *api.Survey) { slices.Reverse(s.Found) },
		"one that is no label":  func(s *api.Survey) { s.Found[1] = ell() },
		"one that is nothing":   func(s *api.Survey) { s.Found = append(s.Found, api.Origami{}) },
		"a square more":         func(s *api.Survey) { s.Found[0].Right = append(s.Found[0].Right, 3) },
		"Right and Up for each": func(s *api.Survey) { s.Found[0].Right, s.Found[0].Up = s.Found[0].Up, s.Found[0].Right },
		"fewer pairs":           func(s *api.Survey) { s.Next = 3 },
		"no pairs":              func(s *api.Survey) { s.Next = 0 },
		"other squares":         func(s *api.Survey) { s.Squares = 4 },
	} {
		other := deep(s)
		change(&other)
		want(t, "CheckSurvey with "+what, archive.CheckSurvey(other), api.ErrProof)
	}
	for next := range 37 {
		right := api.Survey{Squares: 3, Next: next, Found: foundOf(3, 0, next)}
		want(t, "CheckSurvey", archive.CheckSurvey(right), api.OK)
	}
}

// P10.4: texts of surveys.
func TestSurveyTexts(t *testing.T) {
	s, _ := archive.Begin(2)
	s, _ = archive.Advance(s, 3)
	text, e := archive.FormatSurvey(s)
	wantText(t, "FormatSurvey", text, e, "survey 2 3 2 2 0 1 2 1 0 2 1 0 2 0 1", api.OK)
	odd := api.Survey{Squares: 5, Next: 14400, Found: []api.Origami{{}, {Right: []int{large}}, {Up: []int{-large, 7}}}}
	text, e = archive.FormatSurvey(odd)
	wantText(t, "FormatSurvey of other labels", text, e, "survey 5 14400 3 0 0 1 1000000000000000 0 0 2 -1000000000000000 7", api.OK)
	back, e := archive.ParseSurvey(text)
	wantAlike(t, "ParseSurvey of other labels", back, e, odd, api.OK)
	for _, n := range []int{large + 1, -large - 1, most, -most - 1} {
		odd.Found[2].Up[0] = n
		text, e = archive.FormatSurvey(odd)
		wantText(t, "FormatSurvey of great numbers", text, e, "", api.ErrRange)
	}
	text, e = archive.FormatSurvey(api.Survey{Squares: 1, Found: []api.Origami{{Right: append(make([]int, 50000), large+1)}}})
	wantText(t, "FormatSurvey of a great number in a long text", text, e, "", api.ErrRange)
}

// P10.4: texts of exactly MaxText bytes, and longer ones.
func TestSurveyLarge(t *testing.T) {
	for zeros := 9900; zeros < 10100; zeros++ {
		s := api.Survey{Squares: 1, Next: 1, Found: []api.Origami{{Right: make([]int, zeros)}}}
		length := len(fmt.Sprintf("survey 1 1 1 %d 0", zeros)) + 2*zeros
		text, e := archive.FormatSurvey(s)
		if length > 20000 {
			wantText(t, "FormatSurvey of a long text", text, e, "", api.ErrLarge)
			continue
		}
		want(t, "the error of a text that is not too long", e, api.OK)
		want(t, "its length", len(text), length)
		back, e := archive.ParseSurvey(text)
		wantAlike(t, "ParseSurvey", back, e, s, api.OK)
		if length == 20000 {
			_, e = archive.ParseSurvey(text + " ")
			want(t, "ParseSurvey of a longer text", e, api.ErrLarge)
		}
	}
	back, e := archive.ParseSurvey(strings.Repeat("x", 20001))
	wantAlike(t, "ParseSurvey of 20001 signs", back, e, api.Survey{}, api.ErrLarge)
	back, e = archive.ParseSurvey(strings.Repeat("x", 20000))
	wantAlike(t, "ParseSurvey of 20000 signs", back, e, api.Survey{}, api.ErrSyntax)
}

// P10.4: texts that are no survey's.
func TestParseSurveyErrors(t *testing.T) {
	for _, s := range []string{
		"", " ", "survey", "survey 2", "survey 2 0", "survey 2 0 ", "survey 2 0 0 ", " survey 2 0 0", "survey  2 0 0", "survey 2 0 0\n", "survey 2 0 0 0", "Survey 2 0 0", "result 2 0 0", ellText,
		"survey 02 0 0", "survey +2 0 0", "survey 2 -0 0", "survey 2 00 0", "survey 2 0 -1", "survey 2 0 1", "survey 2 0 1 0", "survey 2 0 1 0 1", "survey 2 0 1 0 0 0", "survey 2 0 x", "survey 2 0 1 1 1000000000000001 0",
		"survey 2 0 1000000000000000", "survey 2 0 9223372036854775807", "survey 0 0 0", "survey 6 0 0", "survey 2 5 0", "survey 2 -1 0", "survey -1 0 0", "survey 2\t0 0",
	} {
		back, e := archive.ParseSurvey(s)
		wantAlike(t, fmt.Sprintf("ParseSurvey of %q", s), back, e, api.Survey{}, api.ErrSyntax)
	}
	for _, s := range []string{"survey 1 0 0", "survey 2 4 0", "survey 5 14400 0", "survey 2 0 1 0 0", "survey 2 0 1 1 -1 0"} {
		back, e := archive.ParseSurvey(s)
		want(t, "ParseSurvey of "+s, e, api.OK)
		text, e := archive.FormatSurvey(back)
		wantText(t, "FormatSurvey of "+s, text, e, s, api.OK)
	}
}
