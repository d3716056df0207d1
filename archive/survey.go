package archive

import (
	"slices"

	"flatland/api"
	"flatland/origami"
)

// maxAdvance is the number of pairs that are looked at together.
const maxAdvance = 100000

// Begin returns a survey that has looked at no pair.
func Begin(n int) (api.Survey, api.Errno) {
	s := api.Survey{Squares: n}
	if e := surveyError(s); e != api.OK {
		return api.Survey{}, e
	}
	return s, api.OK
}

// Advance looks at further pairs.
func Advance(s api.Survey, steps int) (api.Survey, api.Errno) {
	if e := surveyError(s); e != api.OK {
		return api.Survey{}, e
	}
	if !within(steps, 0, maxAdvance) {
		return api.Survey{}, api.ErrRange
	}
	end := min(s.Next+steps, pairCount(s.Squares))
	var found []api.Origami
	for _, o := range s.Found {
		found = append(found, api.Origami{Right: slices.Clone(o.Right), Up: slices.Clone(o.Up)})
	}
	found = append(found, labels(s.Squares, s.Next, end)...)
	return api.Survey{Squares: s.Squares, Next: end, Found: found}, api.OK
}

// Done reports whether all pairs were looked at.
func Done(s api.Survey) bool {
	return surveyError(s) == api.OK && s.Next == pairCount(s.Squares)
}

// CheckSurvey accepts what surveys find.
func CheckSurvey(s api.Survey) api.Errno {
	if e := surveyError(s); e != api.OK {
		return e
	}
	return proven(api.OK, slices.EqualFunc(s.Found, labels(s.Squares, 0, s.Next), isSame))
}

// surveyError returns the error of a survey.
func surveyError(s api.Survey) api.Errno {
	if !within(s.Squares, 1, api.MaxSurvey) || !within(s.Next, 0, pairCount(s.Squares)) {
		return api.ErrRange
	}
	return api.OK
}

// labels returns the pairs from one number up to another one, not included, that are connected and their own label.
func labels(n, from, end int) []api.Origami {
	var found []api.Origami
	for k := from; k < end; k++ {
		o := pair(n, k)
		if label, _, e := origami.Label(o); e == api.OK && isSame(label, o) {
			found = append(found, o)
		}
	}
	return found
}

// pairCount returns the number of pairs with n squares.
func pairCount(n int) int { return factorial(n) * factorial(n) }

// pair returns the pair with a number.
func pair(n, k int) api.Origami {
	return api.Origami{Right: permutation(n, k/factorial(n)), Up: permutation(n, k%factorial(n))}
}

// permutation returns the permutation of 0 to n - 1 with a number, in lexicographic order.
func permutation(n, k int) []int {
	var f, unused []int
	for x := range n {
		unused = append(unused, x)
	}
	for len(unused) > 0 {
		with := factorial(len(unused) - 1) // so many permutations go on with each one
		i := k / with
		f = append(f, unused[i])
		unused = slices.Delete(unused, i, i+1)
		k %= with
	}
	return f
}

func factorial(n int) int {
	product := 1
	for i := range n {
		product *= i + 1
	}
	return product
}

func isSame(a, b api.Origami) bool {
	return slices.Equal(a.Right, b.Right) && slices.Equal(a.Up, b.Up)
}
