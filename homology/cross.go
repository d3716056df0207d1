package homology

// crossings returns how often a cycle, which is moved off the edges into the squares, crosses each edge from its right to its left side. No number is too large for an int: the turns are at most 4 numbers of a chain for each square, so that intersection numbers are less than 10^17.
func (t *tiling) crossings(b []int) []int {
	times := make([]int, len(t.edges))
	more := make([]int, t.squares()) // what comes into a square more than goes out
	for i := range more {
		x, y := b[i], b[t.side(i)]
		times[t.side(t.right[i])] -= x
		times[t.up[i]] += y
		more[i] -= x + y
		more[t.right[i]] += x
		more[t.up[i]] += y
	}
	for _, squares := range t.corners {
		turns := 0
		for k, i := range squares {
			turns += more[i]
			next := squares[(k+1)%len(squares)]
			times[t.side(i)] += turns
			times[t.left[i]] -= turns
			times[t.side(t.down[next])] -= turns
			times[next] += turns
		}
	}
	return times
}

// gram returns the Gram matrix of cycles.
func (t *tiling) gram(list [][]int) [][]int {
	matrix := make([][]int, len(list))
	for _, b := range list {
		times := t.crossings(b)
		for i, a := range list {
			matrix[i] = append(matrix[i], dot(a, times))
		}
	}
	return matrix
}

// symplectic returns a symplectic basis. It takes a pair of cycles that cross once out of a basis, makes the others cross neither of both, and goes on with these.
//
// Each cycle crosses another one at most once, at the start and after each pair: if the paths are drawn together to points, each part is a polygon around its point, and each loop leads out of it through a side and comes back through the one to which this is glued; two loops cross if their sides separate each other around the polygon. To take a pair out is to cut and glue the polygon as is done to bring it into its normal form: two pairs of sides become a handle, and the others stay, in another order. For the same reason the cycles stay small: each is a sum, with the multiples -1, 0 and 1, of the cycles that cross one loop each, and these are such sums of the first basis.
func (t *tiling) symplectic() [][]int {
	var pairs [][]int
	for rest := newFrame(t.mesh).basis(); len(rest) > 0; {
		a, b, others := t.takePair(rest)
		pairs = append(pairs, a, b)
		rest = t.uncrossed(others, a, b)
	}
	return pairs
}

// takePair returns the first of some cycles and one that crosses it once from its right to its left side, and the cycles without both.
func (t *tiling) takePair(list [][]int) (a, b []int, others [][]int) {
	a = list[0]
	times := t.crossings(a)
	for _, c := range list[1:] {
		// The number is that of c and a, so its sign is the other one.
		if sign := -dot(c, times); sign != 0 && b == nil {
			b = plus(make([]int, len(c)), sign, c)
			continue
		}
		others = append(others, c)
	}
	return a, b, others
}

// uncrossed returns cycles plus multiples of a and b, which have the intersection number 1, with which they cross neither of both.
func (t *tiling) uncrossed(list [][]int, a, b []int) [][]int {
	byA, byB := t.crossings(a), t.crossings(b)
	var others [][]int
	for _, c := range list {
		others = append(others, plus(plus(c, -dot(c, byB), a), dot(c, byA), b))
	}
	return others
}

// isSymplectic reports whether a matrix is the Gram matrix of a symplectic basis.
func isSymplectic(gram [][]int) bool {
	for i, row := range gram {
		partner := i ^ 1 // the other element of the pair
		for j, x := range row {
			if j == partner && x != j-i || j != partner && x != 0 {
				return false
			}
		}
	}
	return true
}
