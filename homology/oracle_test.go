package homology_test

import (
	"math/big"
	"math/rand"
	"slices"

	"flatland/api"
)

// What the tests compare with is computed here by the definitions alone: chains edge by edge, closed paths that are pushed aside, and lattices of numbers of any size.

// The steps from a square.

func leftOf(o api.Origami, x int) int { return slices.Index(o.Right, x) }

func downOf(o api.Origami, x int) int { return slices.Index(o.Up, x) }

// turnOf goes once around the lower left corner of a square.
func turnOf(o api.Origami, x int) int { return o.Up[o.Right[downOf(o, leftOf(o, x))]] }

// verticesOf returns the number of the vertex of each square.
func verticesOf(o api.Origami) []int {
	numbers := slices.Repeat([]int{-1}, len(o.Right))
	count := 0
	for x := range numbers {
		if numbers[x] >= 0 {
			continue
		}
		for y := x; numbers[y] < 0; y = turnOf(o, y) {
			numbers[y] = count
		}
		count++
	}
	return numbers
}

// boundaryOf returns the boundary of a chain.
func boundaryOf(o api.Origami, c []int) []int {
	n, vertex := len(o.Right), verticesOf(o)
	sums := make([]int, slices.Max(vertex)+1)
	for i := range n {
		sums[vertex[o.Right[i]]] += c[i]
		sums[vertex[i]] -= c[i]
		sums[vertex[o.Up[i]]] += c[n+i]
		sums[vertex[i]] -= c[n+i]
	}
	return sums
}

// squareOf returns the boundary of a square.
func squareOf(o api.Origami, i int) []int {
	n := len(o.Right)
	c := make([]int, 2*n)
	c[i]++
	c[n+o.Right[i]]++
	c[o.Up[i]]--
	c[n+i]--
	return c
}

// intersectionOf follows the chapter's definition; around each vertex the turns begin with any number.
func intersectionOf(o api.Origami, a, b []int, begin func() int) int {
	n := len(o.Right)
	sum := 0
	in, out := make([]int, n), make([]int, n)
	for i := range n {
		x, y := b[i], b[n+i]
		out[i] += x + y
		in[o.Right[i]] += x
		in[o.Up[i]] += y
		sum += -x*a[n+o.Right[i]] + y*a[o.Up[i]]
	}
	done := make([]bool, n)
	for first := range n {
		z := begin() // of the turn that leads to the first square
		for k := first; !done[k]; k = turnOf(o, k) {
			done[k] = true
			z += in[k] - out[k]
			next := turnOf(o, k)
			sum += z * (a[n+k] - a[leftOf(o, k)] - a[n+downOf(o, next)] + a[next])
		}
	}
	return sum
}

// crossed is the intersection number by the definition.
func crossed(o api.Origami, a, b []int) int {
	return intersectionOf(o, a, b, func() int { return 0 })
}

// An end is one of the four edges at the lower left corner of a square: the bottom edge (east), the left edge (north), the bottom edge of the square to the left (west), and the left edge of the square below the next one around the vertex (south).
type end struct{ square, way int }

// next returns the next end around the vertex, counterclockwise.
func (e end) next(o api.Origami) end {
	if e.way == 3 {
		return end{turnOf(o, e.square), 0}
	}
	return end{e.square, e.way + 1}
}

// edge returns the number of the edge, and 1 if it begins at the vertex, -1 if it ends there.
func (e end) edge(o api.Origami) (number, sign int) {
	n := len(o.Right)
	return [4]int{e.square, n + e.square, leftOf(o, e.square), n + downOf(o, turnOf(o, e.square))}[e.way], [4]int{1, 1, -1, -1}[e.way]
}

// other returns the other end of the edge.
func (e end) other(o api.Origami) end {
	x := e.square
	switch e.way {
	case 0:
		return end{o.Right[x], 2} // to the left of the square to the right
	case 1:
		// The square whose next one around its vertex is above x.
		for y := range o.Right {
			if turnOf(o, y) == o.Up[x] {
				return end{y, 3}
			}
		}
	case 2:
		return end{leftOf(o, x), 0}
	}
	return end{downOf(o, turnOf(o, x)), 1}
}

// path is a closed path along edges, by the ends at which they begin.
type path struct {
	o    api.Origami
	ends []end
}

// randomPath returns a random closed path.
func randomPath(r *rand.Rand, o api.Origami) path {
	vertex := verticesOf(o)
	p := path{o: o}
	first := r.Intn(len(o.Right))
	for at := first; ; {
		// Any square of the same vertex.
		for range r.Intn(5) {
			at = turnOf(o, at)
		}
		e := end{at, r.Intn(4)}
		p.ends = append(p.ends, e)
		at = e.other(o).square
		if vertex[at] == vertex[first] {
			return p
		}
	}
}

// chain returns the chain of a path.
func (p path) chain() []int {
	c := make([]int, 2*len(p.o.Right))
	for _, e := range p.ends {
		number, sign := e.edge(p.o)
		c[number] += sign
	}
	return c
}

// crossings pushes a path to its right side, where it goes counterclockwise around the vertices, and returns how often it crosses a chain from its right to its left side.
func (p path) crossings(a []int) int {
	sum := 0
	for i, e := range p.ends {
		out := p.ends[(i+1)%len(p.ends)]
		for x := e.other(p.o).next(p.o); x != out; x = x.next(p.o) {
			number, sign := x.edge(p.o)
			sum += sign * a[number]
		}
	}
	return sum
}

// lattice is whole combinations of vectors: rows with different first places that are not 0.
type lattice struct{ rows map[int][]*big.Int }

func newLattice(vectors ...[]int) *lattice {
	l := &lattice{map[int][]*big.Int{}}
	for _, v := range vectors {
		l.add(bigs(v))
	}
	return l
}

// bigs returns a list of numbers of any size.
func bigs(v []int) []*big.Int {
	var list []*big.Int
	for _, x := range v {
		list = append(list, big.NewInt(int64(x)))
	}
	return list
}

// combined returns a v + b w.
func combined(a *big.Int, v []*big.Int, b *big.Int, w []*big.Int) []*big.Int {
	list := make([]*big.Int, len(v))
	for i := range v {
		list[i] = new(big.Int).Mul(a, v[i])
		list[i].Add(list[i], new(big.Int).Mul(b, w[i]))
	}
	return list
}

// add adds a vector.
func (l *lattice) add(v []*big.Int) {
	for i := range v {
		if v[i].Sign() == 0 {
			continue
		}
		w, ok := l.rows[i]
		if !ok {
			l.rows[i] = v
			return
		}
		a, b := new(big.Int), new(big.Int)
		g := new(big.Int).GCD(a, b, w[i], v[i])
		p, q := new(big.Int).Quo(w[i], g), new(big.Int).Quo(v[i], g)
		l.rows[i], v = combined(a, w, b, v), combined(p, v, new(big.Int).Neg(q), w)
	}
}

// contains reports whether a vector is in the lattice.
func (l *lattice) contains(c []int) bool {
	v := bigs(c)
	for i := range v {
		if v[i].Sign() == 0 {
			continue
		}
		w, ok := l.rows[i]
		if !ok {
			return false
		}
		q, rest := new(big.Int).QuoRem(v[i], w[i], new(big.Int))
		if rest.Sign() != 0 {
			return false
		}
		v = combined(big.NewInt(1), v, q.Neg(q), w)
	}
	return true
}

// index returns the product of the first numbers of the rows.
func (l *lattice) index() *big.Int {
	product := big.NewInt(1)
	for i, w := range l.rows {
		product.Mul(product, w[i])
	}
	return product.Abs(product)
}

// boundaries returns the boundaries of all squares.
func boundaries(o api.Origami) [][]int {
	var list [][]int
	for i := range o.Right {
		list = append(list, squareOf(o, i))
	}
	return list
}

// freeEdges returns the edges that are not in a forest of edges by which all vertices of a part are connected. A cycle may have any numbers on them, and these determine it.
func freeEdges(o api.Origami) []int {
	n, vertex := len(o.Right), verticesOf(o)
	tree := identity(slices.Max(vertex) + 1) // the least vertex that is known to be connected with each one
	var free []int
	for edge := range slices.Backward(make([]int, 2*n)) {
		from, to := vertex[edge%n], vertex[slices.Concat(o.Right, o.Up)[edge]]
		if tree[from] == tree[to] {
			free = append(free, edge)
			continue
		}
		a, b := min(tree[from], tree[to]), max(tree[from], tree[to])
		for v, x := range tree {
			if x == b {
				tree[v] = a
			}
		}
	}
	return free
}

// isBasis reports whether the boundaries of squares and some cycles have all cycles as whole combinations, and none of these cycles is left over.
func isBasis(o api.Origami, list [][]int) bool {
	free := freeEdges(o)
	short := func(vectors [][]int) *lattice {
		l := newLattice()
		for _, c := range vectors {
			var v []int
			for _, edge := range free {
				v = append(v, c[edge])
			}
			l.add(bigs(v))
		}
		return l
	}
	bound, all := short(boundaries(o)), short(slices.Concat(boundaries(o), list))
	return len(all.rows) == len(free) && all.index().IsInt64() && all.index().Int64() == 1 && len(bound.rows)+len(list) == len(free)
}

// areHomologous reports whether the difference of two cycles is a sum of multiples of boundaries of squares.
func areHomologous(o api.Origami, a, b []int) bool {
	return newLattice(boundaries(o)...).contains(added(a, -1, b))
}

// sumOf returns the sum of multiples of chains.
func sumOf(multiples []int, list [][]int, length int) []int {
	c := make([]int, length)
	for i, k := range multiples {
		c = added(c, k, list[i])
	}
	return c
}

// partsOf returns the least square of the part of each square.
func partsOf(o api.Origami) []int {
	part := identity(len(o.Right))
	for range part {
		for x := range part {
			for _, y := range []int{o.Right[x], o.Up[x]} {
				least := min(part[x], part[y])
				part[x], part[y] = least, least
			}
		}
	}
	return part
}

// rankOf returns twice the genus of all parts.
func rankOf(o api.Origami) int {
	orders := len(o.Right) - len(slices.Compact(slices.Sorted(slices.Values(verticesOf(o)))))
	return orders + 2*len(slices.Compact(slices.Sorted(slices.Values(partsOf(o)))))
}

// pushBy follows the table of the chapter square by square.
func pushBy(o api.Origami, letter byte, c []int) (api.Origami, []int) {
	n := len(o.Right)
	next, image := squares(nil, nil), make([]int, 2*n)
	for i := range n {
		right, up := o.Right[i], o.Up[i]
		left, down := leftOf(o, i), downOf(o, i)
		b, l := c[i], c[n+i]
		switch letter {
		case 'T':
			next.Right, next.Up = append(next.Right, right), append(next.Up, leftOf(o, up))
			image[left] += b
			image[n+left] += l
			image[leftOf(o, o.Up[left])] += l
		case 't':
			next.Right, next.Up = append(next.Right, right), append(next.Up, o.Right[up])
			image[right] += b
			image[n+right] += l
			image[o.Right[up]] -= l
		case 'S':
			next.Right, next.Up = append(next.Right, down), append(next.Up, right)
			image[n+down] += b
			image[i] -= l
		case 's':
			next.Right, next.Up = append(next.Right, up), append(next.Up, left)
			image[n+i] -= b
			image[left] += l
		}
	}
	return next, image
}

// pushWord pushes by the letters from the last one to the first one.
func pushWord(o api.Origami, w string, c []int) (api.Origami, []int) {
	for i := len(w) - 1; i >= 0; i-- {
		o, c = pushBy(o, w[i], c)
	}
	return o, c
}

// minors yields the determinants of all parts of a matrix with so many rows and columns.
func minors(m [][]int, size int, yield func(d *big.Int)) {
	for _, rows := range choices(len(m), size) {
		for _, columns := range choices(len(m[0]), size) {
			yield(determinant(m, rows, columns))
		}
	}
}

// choices returns all ascending lists of numbers from 0 to less than n.
func choices(n, size int) [][]int {
	if size == 0 {
		return [][]int{nil}
	}
	var all [][]int
	for last := size - 1; last < n; last++ {
		for _, c := range choices(last, size-1) {
			all = append(all, append(slices.Clone(c), last))
		}
	}
	return all
}

// determinant expands a determinant along its first row.
func determinant(m [][]int, rows, columns []int) *big.Int {
	if len(rows) == 0 {
		return big.NewInt(1)
	}
	sum := new(big.Int)
	for j, column := range columns {
		x := big.NewInt(int64(m[rows[0]][column]))
		if j%2 == 1 {
			x.Neg(x)
		}
		rest := slices.Delete(slices.Clone(columns), j, j+1)
		sum.Add(sum, x.Mul(x, determinant(m, rows[1:], rest)))
	}
	return sum
}

// rankAndMinor returns the rank of a matrix, and a minor of this size that is not 0, by elimination with fractions.
func rankAndMinor(m [][]int) (rank int, minor *big.Int) {
	product := big.NewRat(1, 1)
	var rows [][]*big.Rat
	for _, row := range m {
		var list []*big.Rat
		for _, x := range row {
			list = append(list, big.NewRat(int64(x), 1))
		}
		rows = append(rows, list)
	}
	for j := range m[0] {
		i := slices.IndexFunc(rows, func(row []*big.Rat) bool { return row[j].Sign() != 0 })
		if i < 0 {
			continue
		}
		pivot := rows[i]
		rows = slices.Delete(rows, i, i+1)
		rank++
		product.Mul(product, pivot[j])
		for _, row := range rows {
			factor := new(big.Rat).Quo(row[j], pivot[j])
			for k := j; k < len(row); k++ {
				row[k].Sub(row[k], new(big.Rat).Mul(factor, pivot[k]))
			}
		}
	}
	return rank, product.Num()
}

// rankModulo returns the rank of a matrix modulo a prime.
func rankModulo(m [][]int, p int) int {
	var rows [][]int
	for _, row := range m {
		rows = append(rows, slices.Clone(row))
	}
	rank := 0
	for j := range m[0] {
		i := slices.IndexFunc(rows, func(row []int) bool { return row[j]%p != 0 })
		if i < 0 {
			continue
		}
		pivot := rows[i]
		rows = slices.Delete(rows, i, i+1)
		rank++
		inverse := new(big.Int).ModInverse(big.NewInt(int64(pivot[j])), big.NewInt(int64(p))).Int64()
		for _, row := range rows {
			factor := row[j] % p * int(inverse) % p
			for k := range row {
				row[k] = (row[k] - factor*(pivot[k]%p)) % p
			}
		}
	}
	return rank
}

// invariantsBy returns the invariant factors by the minors of all sizes.
func invariantsBy(m [][]int) []*big.Int {
	var list []*big.Int
	last := big.NewInt(1)
	if len(m) == 0 {
		return nil
	}
	for size := range min(len(m), len(m[0])) {
		g := new(big.Int)
		minors(m, size+1, func(d *big.Int) { g.GCD(nil, nil, g, d.Abs(d)) })
		if g.Sign() == 0 {
			list = append(list, g)
			continue
		}
		list = append(list, new(big.Int).Quo(g, last))
		last = g
	}
	return list
}

// valueOf returns the value of an integer in normal form.
func valueOf(x api.Int) *big.Int {
	z := new(big.Int)
	for _, e := range slices.Backward(x) {
		z.Mul(z, big.NewInt(100000000)).Add(z, big.NewInt(int64(e)))
	}
	return z
}

// isNormal reports whether an integer that is not negative is in normal form.
func isNormal(x api.Int) bool {
	return len(x) == 0 || x[len(x)-1] > 0 && slices.Min(x) >= 0 && slices.Max(x) < 100000000
}

// product returns the product of two matrices.
func product(a, b [][]int) [][]int {
	m := make([][]int, len(a))
	for i, row := range a {
		m[i] = make([]int, len(b[0]))
		for k, x := range row {
			for j, y := range b[k] {
				m[i][j] += x * y
			}
		}
	}
	return m
}

// transposed returns a matrix with rows and columns exchanged.
func transposed(m [][]int) [][]int {
	var n [][]int
	for j := range m[0] {
		var row []int
		for i := range m {
			row = append(row, m[i][j])
		}
		n = append(n, row)
	}
	return n
}
