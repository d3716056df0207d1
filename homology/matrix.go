package homology

import (
	"flatland/api"
	"flatland/field"
)

// integers returns a matrix as one of integers of any size.
func integers(m [][]int) [][]api.Int {
	rows := make([][]api.Int, len(m))
	for i, row := range m {
		for _, x := range row {
			rows[i] = append(rows[i], field.Of(x))
		}
	}
	return rows
}

// reduce adds rows of a matrix to each other and multiplies them, until each one of the first columns either depends on those before it or has a single number, and returns the rank of these columns. These single numbers are all the same one, which is returned too: up to its sign a minor of the size of the rank, not 0. There are no fractions: all numbers are minors of the given matrix, so that divisions leave no remainder (Bareiss's way).
func reduce(m [][]api.Int, columns int) (rank int, minor api.Int) {
	minor = field.Of(1)
	for j := 0; j < columns && rank < len(m); j++ {
		i := rank
		for i < len(m) && len(m[i][j]) == 0 {
			i++
		}
		if i == len(m) {
			continue
		}
		m[rank], m[i] = m[i], m[rank]
		clearColumn(m, rank, j, minor)
		minor = m[rank][j]
		rank++
	}
	return rank, minor
}

// clearColumn makes all numbers of a column 0 but that of one row, the pivot; last is the pivot before.
func clearColumn(m [][]api.Int, row, column int, last api.Int) {
	pivot := m[row][column]
	for i := range m {
		if i == row {
			continue
		}
		factor := m[i][column]
		if len(factor) == 0 && field.Cmp(pivot, last) == 0 {
			continue // nothing changes
		}
		for j, x := range m[i] {
			x = field.Sub(field.Mul(pivot, x), field.Mul(factor, m[row][j]))
			m[i][j], _, _ = field.DivMod(x, last)
		}
	}
}

// inverseMatrix returns the inverse of a square matrix, if it has one whose numbers are integers.
func inverseMatrix(m [][]int) (inverse [][]api.Int, ok bool) {
	n := len(m)
	rows := integers(m)
	for i := range rows {
		for j := range n {
			x := field.Of(0)
			if j == i {
				x = field.Of(1)
			}
			rows[i] = append(rows[i], x)
		}
	}
	rank, minor := reduce(rows, n)
	if size, _ := field.Small(field.Mul(minor, minor)); rank < n || size != 1 {
		return nil, false
	}
	for _, row := range rows {
		var numbers []api.Int
		for _, x := range row[n:] {
			numbers = append(numbers, field.Mul(minor, x)) // 1 and -1 are their own inverses
		}
		inverse = append(inverse, numbers)
	}
	return inverse, true
}
