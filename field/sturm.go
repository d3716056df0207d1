package field

// lists returns numbers as integers.
func lists(n []int) [][]int {
	l := make([][]int, len(n))
	for i, x := range n {
		l[i] = Of(x)
	}
	return l
}

// valueAt returns b^d times the value at a/b of a polynomial of degree d.
func valueAt(p [][]int, a, b []int) []int {
	var v []int
	scale := []int{1}
	for i := len(p) - 1; i >= 0; i-- {
		v = plus(product(v, a), 1, product(p[i], scale))
		scale = product(scale, b)
	}
	return v
}

// sturm returns the Sturm chain of a polynomial, each member of it up to a positive factor.
func sturm(p [][]int) [][][]int {
	chain := [][][]int{p, derivative(p)}
	for {
		n := len(chain)
		rest := remainder(chain[n-2], chain[n-1])
		if len(rest) == 0 {
			return chain
		}
		for i, c := range rest {
			rest[i] = negative(c)
		}
		chain = append(chain, rest)
	}
}

// derivative returns the derivative of a polynomial.
func derivative(p [][]int) [][]int {
	d := make([][]int, len(p)-1)
	for i := range d {
		d[i] = plus(nil, i+1, p[i+1])
	}
	return d
}

// remainder returns a positive multiple of the remainder of p divided by q, whose last coefficient is not 0.
func remainder(p, q [][]int) [][]int {
	last := q[len(q)-1]
	for len(p) >= len(q) {
		top := product(p[len(p)-1], Of(sign(last)))
		shift := len(p) - len(q)
		rest := make([][]int, len(p)-1)
		for i := range rest {
			rest[i] = product(p[i], size(last))
			if i >= shift {
				rest[i] = plus(rest[i], -1, product(top, q[i-shift]))
			}
		}
		p = rest
		for len(p) > 0 && len(p[len(p)-1]) == 0 {
			p = p[:len(p)-1]
		}
	}
	return p
}

// variations counts the changes of sign in a chain at a/b.
func variations(chain [][][]int, a, b []int) int {
	n, before := 0, 0
	for _, p := range chain {
		s := sign(valueAt(p, a, b))
		if s*before < 0 {
			n++
		}
		if s != 0 {
			before = s
		}
	}
	return n
}
