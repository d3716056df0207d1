package origami_test

import (
	"slices"

	"flatland/api"
)

// What the tests compare with is computed here by the definitions alone, with searches where the program has none.

// The steps from a square.

func rightOf(o api.Origami, x int) int { return o.Right[x] }

func upOf(o api.Origami, x int) int { return o.Up[x] }

func leftOf(o api.Origami, x int) int { return slices.Index(o.Right, x) }

func downOf(o api.Origami, x int) int { return slices.Index(o.Up, x) }

// walk returns the square that is reached by steps: r, l, u and d.
func walk(o api.Origami, x int, steps string) int {
	for _, s := range steps {
		switch s {
		case 'r':
			x = rightOf(o, x)
		case 'l':
			x = leftOf(o, x)
		case 'u':
			x = upOf(o, x)
		case 'd':
			x = downOf(o, x)
		}
	}
	return x
}

// turnedBy180 is the origami whose permutations are left and down.
func turnedBy180(o api.Origami) api.Origami {
	var t api.Origami
	for x := range o.Right {
		t.Right, t.Up = append(t.Right, leftOf(o, x)), append(t.Up, downOf(o, x))
	}
	return t
}

// classes returns the numbers of the classes of 0, .., n - 1 that contain the same elements as soon as they are joined, in the order of their least elements.
func classes(n int, joined func(join func(a, b int))) []int {
	least := identity(n)
	for changed := true; changed; {
		changed = false
		joined(func(a, b int) {
			if m := min(least[a], least[b]); least[a] != m || least[b] != m {
				least[a], least[b], changed = m, m, true
			}
		})
	}
	numbers := make([]int, n)
	count := 0
	for i, l := range least {
		numbers[i] = numbers[l]
		if l == i {
			numbers[i] = count
			count++
		}
	}
	return numbers
}

// grouped returns the elements of each class.
func grouped(numbers []int) [][]int {
	var l [][]int
	for x, i := range numbers {
		if i == len(l) {
			l = append(l, nil)
		}
		l[i] = append(l[i], x)
	}
	return l
}

// parts returns the squares of each component.
func parts(o api.Origami) [][]int {
	return grouped(classes(len(o.Right), func(join func(a, b int)) {
		for x := range o.Right {
			join(x, o.Right[x])
			join(x, o.Up[x])
		}
	}))
}

// numberedFrom returns the new number of each square in the numbering from a square.
func numberedFrom(o api.Origami, s int) []int {
	order := []int{s}
	for i := 0; i < len(order); i++ {
		for _, y := range []int{rightOf(o, order[i]), upOf(o, order[i])} {
			if !slices.Contains(order, y) {
				order = append(order, y)
			}
		}
	}
	var f []int
	for x := range o.Right {
		f = append(f, slices.Index(order, x))
	}
	return f
}

// leastNumbered returns the label and its numbering.
func leastNumbered(o api.Origami) pair {
	var all []pair
	for s := range o.Right {
		f := numberedFrom(o, s)
		all = append(all, pair{renumbered(o, f), f})
	}
	return slices.MinFunc(all, func(a, b pair) int {
		return slices.Compare(slices.Concat(a.o.Right, a.o.Up), slices.Concat(b.o.Right, b.o.Up))
	})
}

// isCover reports whether f is a covering of b by a.
func isCover(a, b api.Origami, f []int) bool {
	for x := range f {
		if f[rightOf(a, x)] != rightOf(b, f[x]) || f[upOf(a, x)] != upOf(b, f[x]) {
			return false
		}
	}
	for y := range b.Right {
		if !slices.Contains(f, y) {
			return false
		}
	}
	return true
}

// lists returns all lists of n numbers from 0 to m - 1, in order.
func lists(n, m int) [][]int {
	all := [][]int{nil}
	for range n {
		var longer [][]int
		for _, l := range all {
			for i := range m {
				longer = append(longer, append(slices.Clone(l), i))
			}
		}
		all = longer
	}
	return all
}

// covers returns all coverings of b by a, in order.
func covers(a, b api.Origami) [][]int {
	var all [][]int
	for _, f := range lists(len(a.Right), len(b.Right)) {
		if isCover(a, b, f) {
			all = append(all, f)
		}
	}
	return all
}

// The corners of square x are 4 x + these.
const (
	lowerLeft = iota
	lowerRight
	upperRight
	upperLeft
)

// points returns the numbers of the points that are the corners of the squares.
func points(o api.Origami) []int {
	return classes(4*len(o.Right), func(join func(a, b int)) {
		for x := range o.Right {
			join(4*x+lowerRight, 4*o.Right[x]+lowerLeft)
			join(4*x+upperRight, 4*o.Right[x]+upperLeft)
			join(4*x+upperLeft, 4*o.Up[x]+lowerLeft)
			join(4*x+upperRight, 4*o.Up[x]+lowerRight)
		}
	})
}

// edges returns the numbers of the edges of the squares: those of square x are 4 x + 0, .., 3, from the lower one on.
func edges(o api.Origami) []int {
	return classes(4*len(o.Right), func(join func(a, b int)) {
		for x := range o.Right {
			join(4*x+1, 4*o.Right[x]+3)
			join(4*x+2, 4*o.Up[x]+0)
		}
	})
}

// vertexNumbers returns the number of the vertex that is the lower left corner of each square.
func vertexNumbers(o api.Origami) []int {
	p := points(o)
	return classes(len(o.Right), func(join func(a, b int)) {
		for x := range o.Right {
			for y := range o.Right {
				if p[4*x+lowerLeft] == p[4*y+lowerLeft] {
					join(x, y)
				}
			}
		}
	})
}

// around returns the squares around each vertex: it is turned around its point counterclockwise, by the definition of the commutator.
func around(o api.Origami) [][]int {
	var l [][]int
	for _, group := range grouped(vertexNumbers(o)) {
		cycle := group[:1:1]
		for x := walk(o, group[0], "ldru"); x != group[0]; x = walk(o, x, "ldru") {
			cycle = append(cycle, x)
		}
		l = append(l, cycle)
	}
	return l
}

// heavy returns for each square whether its lower left corner is a vertex of positive order.
func heavy(o api.Origami) []bool {
	numbers := vertexNumbers(o)
	groups := grouped(numbers)
	var l []bool
	for _, i := range numbers {
		l = append(l, len(groups[i]) > 1)
	}
	return l
}

// fixedPoints returns how many centres, midpoints of edges and vertices a half turn fixes: it takes each corner and each edge to the opposite one of the image.
func fixedPoints(o api.Origami, f []int) [3]int {
	var n [3]int
	count := func(kind int, numbers []int) {
		fixed := map[int]bool{}
		for i, k := range numbers {
			if numbers[4*f[i/4]+(i+2)%4] == k {
				fixed[k] = true
			}
		}
		n[kind] = len(fixed)
	}
	for x := range f {
		if f[x] == x {
			n[0]++
		}
	}
	count(1, edges(o))
	count(2, points(o))
	return n
}

// bandsOf returns the bands: squares beside each other are in one band, and squares above each other if no vertex at which bands end is on the line between their rows.
func bandsOf(o api.Origami, marked bool) []api.Band {
	ends := heavy(o)
	open := func(x int) bool { // whether the line above the row of x has no such vertex
		for y, first := x, true; first || y != x; y, first = rightOf(o, y), false {
			if marked || ends[upOf(o, y)] {
				return false
			}
		}
		return true
	}
	groups := grouped(classes(len(o.Right), func(join func(a, b int)) {
		for x := range o.Right {
			join(x, rightOf(o, x))
			if open(x) {
				join(x, upOf(o, x))
			}
		}
	}))
	var list []api.Band
	for _, group := range groups {
		// The first row is one above which the band begins; of a band without ends it is that of the least square.
		first := group[0]
		for _, x := range group {
			if !open(downOf(o, x)) {
				first = x
				break
			}
		}
		b := api.Band{}
		for n := 0; n < len(group); {
			var row []int
			for y := first; !slices.Contains(row, y); y = rightOf(o, y) {
				row = append(row, y)
			}
			n += len(row)
			b.Rows = append(b.Rows, row)
			first = upOf(o, first)
		}
		b.Width, b.Height = len(b.Rows[0]), len(b.Rows)
		list = append(list, b)
	}
	return list
}

// saddlesOf returns the saddles.
func saddlesOf(o api.Origami) []api.Saddle {
	ends, vertex := heavy(o), vertexNumbers(o)
	var starts []int
	for x := range o.Right {
		if ends[x] {
			starts = append(starts, x)
		}
	}
	var list []api.Saddle
	for _, x := range starts {
		last, length := x, 1
		for !ends[walk(o, last, "r")] {
			last, length = walk(o, last, "r"), length+1
		}
		list = append(list, api.Saddle{
			Square: x, Length: length, From: vertex[x], To: vertex[walk(o, last, "r")],
			Above: slices.Index(starts, walk(o, last, "r")), Below: slices.Index(starts, walk(o, last, "dru")),
		})
	}
	return list
}

// latticeOf returns the lattice of the periods: the one with the greatest area whose torus is covered by the origami, as the places of the squares say.
func latticeOf(o api.Origami) api.Lattice {
	n := len(o.Right)
	var best api.Lattice
	for a := 1; a <= n; a++ {
		for c := 1; a*c <= n; c++ {
			for b := range a {
				if n%(a*c) == 0 && a*c > best.A*best.C && placesFit(o, grid(a, b, c)) {
					best = api.Lattice{A: a, B: b, C: c}
				}
			}
		}
	}
	return best
}

// placesFit reports whether square 0 can be laid on square 0 of a torus, and all others beside and above each other.
func placesFit(o, torus api.Origami) bool {
	place := slices.Repeat([]int{-1}, len(o.Right))
	place[0] = 0
	for range o.Right {
		for x, p := range place {
			if p >= 0 {
				place[o.Right[x]], place[o.Up[x]] = torus.Right[p], torus.Up[p]
			}
		}
	}
	return isCover(o, torus, place)
}
