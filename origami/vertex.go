package origami

import (
	"slices"

	"flatland/api"
)

// commutator returns the permutation that goes around the lower left corner of each square once.
func commutator(o api.Origami) []int {
	return product(product(inverse(o.Right), inverse(o.Up)), product(o.Right, o.Up))
}

// vertices returns the squares around each vertex.
func vertices(o api.Origami) [][]int { return cycles(commutator(o)) }

// corners returns the number of the vertex that is the lower left corner of each square.
func corners(o api.Origami) []int {
	numbers := make([]int, len(o.Right))
	for i, squares := range vertices(o) {
		for _, x := range squares {
			numbers[x] = i
		}
	}
	return numbers
}

// stratum returns the orders of the vertices, the greatest first.
func stratum(o api.Origami) []int {
	var orders []int
	for _, squares := range vertices(o) {
		orders = append(orders, len(squares)-1)
	}
	slices.Sort(orders)
	slices.Reverse(orders)
	return orders
}

// genus returns the genus of a connected origami.
func genus(o api.Origami) int {
	sum := len(o.Right) - len(vertices(o)) // of the orders
	return sum/2 + 1
}

// periods returns the lattice of the periods of a connected origami. They are sums of those of the ways that go out from square 0 to a square, on to a neighbour, and back.
func periods(o api.Origami) api.Lattice {
	steps := [2][2]int{{1, 0}, {0, 1}}
	places := map[int][2]int{0: {}} // of squares, seen from square 0
	var l api.Lattice
	for work := []int{0}; len(work) > 0; work = work[1:] {
		from := places[work[0]]
		for i, x := range neighbours(o, work[0]) {
			to := [2]int{from[0] + steps[i][0], from[1] + steps[i][1]}
			at, ok := places[x]
			if ok {
				l = spanned(l, to[0]-at[0], to[1]-at[1])
				continue
			}
			places[x] = to
			work = append(work, x)
		}
	}
	return l
}

// spanned returns what a lattice and (x, y) span. Of a lattice that is spanned by less than two vectors A or C is 0.
func spanned(l api.Lattice, x, y int) api.Lattice {
	for y != 0 {
		k := l.C / y
		l.B, l.C, x, y = x, y, l.B-k*x, l.C-k*y
	}
	l.A = gcd(l.A, x)
	if l.C < 0 {
		l.B, l.C = -l.B, -l.C
	}
	if l.A > 0 {
		l.B = (l.B%l.A + l.A) % l.A
	}
	return l
}
