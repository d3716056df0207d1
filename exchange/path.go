package exchange

import "flatland/api"

// checkKinds returns the error of the kinds of a path.
func checkKinds(kinds []int) api.Errno {
	if len(kinds) > api.MaxPath {
		return api.ErrLarge
	}
	for _, kind := range kinds {
		if kind != topWins && kind != bottomWins {
			return api.ErrRange
		}
	}
	return api.OK
}

// kind returns the kind of the next step.
func (b *body) kind() (int, api.Errno) {
	last := len(b.lengths) - 1
	switch b.Cmp(b.lengths[b.rows.Top[last]], b.lengths[b.rows.Bottom[last]]) {
	case 1:
		return topWins, api.OK
	case -1:
		return bottomWins, api.OK
	}
	return 0, api.ErrTie
}

// advance makes a step of a kind, whether or not the lengths stay positive, and returns its letters.
func (b *body) advance(kind int) (winner, loser int) {
	b.rows, winner, loser = moved(b.rows, kind)
	b.lengths[winner] = b.Sub(b.lengths[winner], b.lengths[loser])
	return winner, loser
}

// path makes n steps, and returns their kinds and the matrix.
func (b *body) path(n int) (kinds []int, matrix [][]int, e api.Errno) {
	matrix = unit(len(b.lengths))
	for range n {
		kind, e := b.kind()
		if e != api.OK {
			return nil, nil, e
		}
		winner, loser := b.advance(kind)
		extend(matrix, winner, loser)
		kinds = append(kinds, kind)
	}
	return kinds, matrix, api.OK
}

// follow returns the rows after steps of these kinds, and the matrix.
func follow(r api.Rows, kinds []int) (api.Rows, [][]int) {
	r = cloned(r)
	matrix := unit(len(r.Top))
	for _, kind := range kinds {
		next, winner, loser := moved(r, kind)
		extend(matrix, winner, loser)
		r = next
	}
	return r, matrix
}

// unit returns the matrix of no steps.
func unit(n int) [][]int {
	matrix := make([][]int, n)
	for i := range matrix {
		matrix[i] = make([]int, n)
		matrix[i][i] = 1
	}
	return matrix
}

// extend multiplies the matrix of a path by that of a step. No number becomes too large for an int: those of MaxPath steps are at most Fibonacci numbers.
func extend(matrix [][]int, winner, loser int) {
	for _, row := range matrix {
		row[loser] += row[winner]
	}
}
