package exchange

import (
	"slices"

	"flatland/api"
)

// The kinds of a step.
const (
	topWins    = iota // the last letter of Top is longer
	bottomWins        // the last letter of Bottom is longer
)

// isOrder reports whether a row of n letters contains each of 0, .., n - 1.
func isOrder(row []int) bool {
	for c := range row {
		if !slices.Contains(row, c) {
			return false
		}
	}
	return true
}

// isIrreducible reports whether no first letters of both rows are the same.
func isIrreducible(r api.Rows) bool {
	needed := 0 // how many letters of Bottom it takes to contain the first ones of Top
	for i, c := range r.Top {
		if i > 0 && i == needed {
			return false
		}
		needed = max(needed, slices.Index(r.Bottom, c)+1)
	}
	return true
}

// checkIrreducible returns an error if rows are not irreducible ones.
func checkIrreducible(r api.Rows) api.Errno {
	e := CheckRows(r)
	if e == api.OK && !isIrreducible(r) {
		return api.ErrForm
	}
	return e
}

// cloned returns a copy of rows.
func cloned(r api.Rows) api.Rows {
	return api.Rows{Top: slices.Clone(r.Top), Bottom: slices.Clone(r.Bottom)}
}

// renumbered returns the rows whose letters are renamed so that Top is 0, 1, .., n - 1.
func renumbered(r api.Rows) api.Rows {
	letters := newNumbering(func(c int) int { return c }, api.MaxLetters)
	return api.Rows{Top: letters.all(r.Top), Bottom: letters.all(r.Bottom)}
}

// moved returns the rows after a step of a kind, and the letters of the step: the length of the winner becomes less by that of the loser.
func moved(r api.Rows, kind int) (next api.Rows, winner, loser int) {
	next = cloned(r)
	last := len(r.Top) - 1
	a, b := r.Top[last], r.Bottom[last]
	if kind == topWins {
		next.Bottom = putBehind(r.Bottom, a)
		return next, a, b
	}
	next.Top = putBehind(r.Top, b)
	return next, b, a
}

// putBehind returns the row whose last letter is taken from the end and put right behind another one.
func putBehind(row []int, letter int) []int {
	last := len(row) - 1
	i := slices.Index(row, letter) + 1
	return slices.Concat(row[:i], row[last:], row[i:last])
}
