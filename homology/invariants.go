package homology

import (
	"slices"

	"flatland/api"
	"flatland/field"
)

// invariants returns the invariant factors of a matrix. As many of them as the rank says are not 0; these divide every minor of the size of the rank, so that they are known from the matrix modulo one that is not 0.
func invariants(m [][]int) []api.Int {
	if len(m) == 0 {
		return nil
	}
	rank, minor := reduce(integers(m), len(m[0]))
	r := residues{integers(m), field.Gcd(minor, minor)}
	for i, row := range r.rows {
		r.rows[i] = r.sum(field.Of(1), row, nil, row)
	}
	factors := chained(r.diagonal())
	for i := range factors[rank:] {
		factors[rank+i] = nil
	}
	return factors
}

// residues is a matrix of numbers from 0 to less than the modulus.
type residues struct {
	rows    [][]api.Int
	modulus api.Int
}

// sum returns a x + b y for rows x and y.
func (r *residues) sum(a api.Int, x []api.Int, b api.Int, y []api.Int) []api.Int {
	row := make([]api.Int, len(x))
	for j := range row {
		value := field.Add(field.Mul(a, x[j]), field.Mul(b, y[j]))
		_, row[j], _ = field.DivMod(value, r.modulus)
	}
	return row
}

// diagonal makes a diagonal matrix by adding multiples of rows and columns to each other, and returns the greatest common divisors of its numbers and the modulus.
func (r *residues) diagonal() []api.Int {
	var list []api.Int
	for k := range min(len(r.rows), len(r.rows[0])) {
		r.bringPivot(k)
		for !r.isClear(k) {
			r.clear(k)
			r.transpose() // the columns have their turn
		}
		list = append(list, field.Gcd(r.rows[k][k], r.modulus))
	}
	return list
}

// bringPivot brings a number that is not 0 to the place k of the diagonal, if there is one from row k and column k on.
func (r *residues) bringPivot(k int) {
	for i := k; i < len(r.rows); i++ {
		for j := k; j < len(r.rows[i]); j++ {
			if len(r.rows[i][j]) == 0 {
				continue
			}
			r.rows[k], r.rows[i] = r.rows[i], r.rows[k]
			for _, row := range r.rows {
				row[k], row[j] = row[j], row[k]
			}
			return
		}
	}
}

// isClear reports whether row k and column k are 0 but for the diagonal.
func (r *residues) isClear(k int) bool {
	for j, x := range r.rows[k] {
		if j != k && len(x) > 0 {
			return false
		}
	}
	return !slices.ContainsFunc(r.rows[k+1:], func(row []api.Int) bool { return len(row[k]) > 0 })
}

// clear makes column k 0 below the diagonal. Row k stays as it is, if its number there divides the others; otherwise this number becomes a smaller one, and so the rows and columns come to an end.
func (r *residues) clear(k int) {
	for i := k + 1; i < len(r.rows); i++ {
		top, row := r.rows[k], r.rows[i]
		if len(row[k]) == 0 {
			continue
		}
		g, a, b := divisor(top[k], row[k])
		p, _, _ := field.DivMod(top[k], g)
		q, _, _ := field.DivMod(row[k], g)
		if len(b) > 0 {
			r.rows[k] = r.sum(a, top, b, row)
		}
		r.rows[i] = r.sum(p, row, field.Sub(nil, q), top)
	}
}

// transpose exchanges rows and columns.
func (r *residues) transpose() {
	rows := make([][]api.Int, len(r.rows[0]))
	for _, row := range r.rows {
		for j, x := range row {
			rows[j] = append(rows[j], x)
		}
	}
	r.rows = rows
}

// divisor returns the greatest common divisor g = a x + b y of two positive numbers, with a = 1 and b = 0 if it is x.
func divisor(x, y api.Int) (g, a, b api.Int) {
	g, a = x, field.Of(1)
	for h, c := y, field.Of(0); ; {
		q, rest, _ := field.DivMod(h, g)
		if len(rest) == 0 {
			break
		}
		h, g = g, rest
		c, a = a, field.Sub(c, field.Mul(q, a))
	}
	b, _, _ = field.DivMod(field.Sub(g, field.Mul(a, x)), y)
	return g, a, b
}

// chained returns numbers of which each divides the next one, so that they make diagonal matrices with the same invariant factors.
func chained(list []api.Int) []api.Int {
	for i := range list {
		for j := i + 1; j < len(list); j++ {
			g := field.Gcd(list[i], list[j])
			q, _, _ := field.DivMod(list[i], g)
			list[i], list[j] = g, field.Mul(q, list[j])
		}
	}
	return list
}
