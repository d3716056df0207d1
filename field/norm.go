package field

import "flatland/api"

// Norm returns the norm of a number.
func (r *Real) Norm(x api.Num) api.Num {
	if r == nil {
		return api.Num{}
	}
	n := r.load(x)
	return fraction(determinant(r.matrix(n)), power(n.d, r.degree))
}

// Trace returns the trace of a number.
func (r *Real) Trace(x api.Num) api.Num {
	if r == nil {
		return api.Num{}
	}
	n := r.load(x)
	var sum []int
	for i, row := range r.matrix(n) {
		sum = plus(sum, 1, row[i])
	}
	return fraction(sum, n.d)
}

// matrix returns the matrix of the multiplication by n times its denominator: column j is the coefficients of that times w^j.
func (r *Real) matrix(n number) [][][]int {
	m := make([][][]int, r.degree)
	c := n.c
	for range r.degree {
		for i := range m {
			m[i] = append(m[i], c[i])
		}
		c = r.raised(c)
	}
	return m
}

// inverse returns 1/n for a number that is not 0.
func (r *Real) inverse(n number) number {
	z := number{d: n.c[0]}
	z.c[0] = n.d
	if n.isFraction() {
		return z.upright()
	}
	// The inverse has the coefficients z with matrix(n) z = 1, the first unit vector: by Cramer's rule they are the cofactors of the first row, divided by the determinant.
	m := r.matrix(n)
	z.d = nil
	for j := range m {
		f := cofactor(m, j)
		z.c[j] = product(f, n.d)
		z.d = plus(z.d, 1, product(f, m[0][j]))
	}
	return z.upright()
}

// cofactor returns the cofactor of the element j of the first row.
func cofactor(m [][][]int, j int) []int {
	rest := make([][][]int, len(m)-1)
	for i, row := range m[1:] {
		rest[i] = append(append([][]int{}, row[:j]...), row[j+1:]...)
	}
	d := determinant(rest)
	if j%2 == 1 {
		d = negative(d)
	}
	return d
}

// determinant returns the determinant of a square matrix.
func determinant(m [][][]int) []int {
	if len(m) == 0 {
		return []int{1}
	}
	var sum []int
	for j, x := range m[0] {
		if len(x) > 0 {
			sum = plus(sum, 1, product(x, cofactor(m, j)))
		}
	}
	return sum
}
