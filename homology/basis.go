package homology

import (
	"slices"

	"flatland/api"
	"flatland/field"
)

// maxMultiple is the size of the coordinates of a cycle.
const maxMultiple = 1000000000000

// basis is a basis that was checked, with the matrix that takes coordinates in the basis of the frame to those in it.
type basis struct {
	*frame
	change [][]api.Int
}

// openBasis checks a list of cycles that has to be a basis.
func (t *tiling) openBasis(list [][]int) (*basis, api.Errno) {
	if e := t.checkCycles(list); e != api.OK {
		return nil, e
	}
	f := newFrame(t.mesh)
	if len(list) != len(f.loops) {
		return nil, api.ErrProof
	}
	var rows [][]int
	for _, c := range list {
		rows = append(rows, f.coordinates(c))
	}
	change, ok := inverseMatrix(rows)
	if !ok {
		return nil, api.ErrProof
	}
	return &basis{f, change}, api.OK
}

// multiples returns the multiples of the elements of which a cycle is homologous to the sum, or ErrLarge.
func (b *basis) multiples(c []int) ([]int, api.Errno) {
	sums := make([]api.Int, len(b.change))
	for i, x := range b.coordinates(c) {
		for j, y := range b.change[i] {
			sums[j] = field.Add(sums[j], field.Mul(field.Of(x), y))
		}
	}
	var list []int
	for _, s := range sums {
		x, ok := field.Small(s)
		if !ok || !areWithin([]int{x}, maxMultiple) {
			return nil, api.ErrLarge
		}
		list = append(list, x)
	}
	return list, api.OK
}

// matrix returns the multiples for each one of some cycles, or the error of the first one that is out of the range of chains or has too large multiples.
func (b *basis) matrix(cycles [][]int) ([][]int, api.Errno) {
	var matrix [][]int
	for _, c := range cycles {
		if !areWithin(c, api.MaxChain) {
			return nil, api.ErrRange
		}
		row, e := b.multiples(c)
		if e != api.OK {
			return nil, e
		}
		matrix = append(matrix, row)
	}
	return matrix, api.OK
}

// form returns the form of rows.
func form(r api.Rows) [][]int {
	matrix := make([][]int, len(r.Top))
	for a := range matrix {
		for b := range matrix {
			top := slices.Index(r.Top, b) > slices.Index(r.Top, a)
			bottom := slices.Index(r.Bottom, b) > slices.Index(r.Bottom, a)
			x := 0
			switch {
			case top && !bottom:
				x = 1
			case !top && bottom:
				x = -1
			}
			matrix[a] = append(matrix[a], x)
		}
	}
	return matrix
}
