package count_test

import (
	"fmt"
	"slices"
	"sync"

	"flatland/api"
)

// What the tests compare with is computed here by the definitions alone, with searches where the program has none.

// allPartitions returns the partitions of 0 to 20: of each number the sums that make it, in any order of their terms, of which those are left whose terms descend.
var allPartitions = sync.OnceValue(func() [][][]int {
	all := [][][]int{{nil}}
	for n := 1; n <= api.MaxParts; n++ {
		var list [][]int
		for cuts := range 1 << (n - 1) {
			p := []int{1}
			for i := range n - 1 {
				if cuts>>i&1 == 1 {
					p = append(p, 1)
				} else {
					p[len(p)-1]++
				}
			}
			if slices.IsSortedFunc(p, func(a, b int) int { return b - a }) {
				list = append(list, p)
			}
		}
		slices.SortFunc(list, func(a, b []int) int { return slices.Compare(b, a) })
		all = append(all, list)
	}
	return all
})

// cell is a cell of a diagram.
type cell struct{ row, column int }

// diagram returns the cells of a partition.
func diagram(p []int) map[cell]bool {
	cells := map[cell]bool{}
	for i, k := range p {
		for j := range k {
			cells[cell{i, j}] = true
		}
	}
	return cells
}

// columns returns the lengths of the columns of a diagram.
func columns(p []int) []int {
	var l []int
	for j := range api.MaxParts {
		k := 0
		for c := range diagram(p) {
			if c.column == j {
				k++
			}
		}
		if k > 0 {
			l = append(l, k)
		}
	}
	return l
}

// hooksBy returns the sizes of the hooks, row by row.
func hooksBy(p []int) [][]int {
	cells := diagram(p)
	var rows [][]int
	for i, k := range p {
		var row []int
		for j := range k {
			n := 0
			for c := range cells {
				if c.row == i && c.column >= j || c.column == j && c.row > i {
					n++
				}
			}
			row = append(row, n)
		}
		rows = append(rows, row)
	}
	return rows
}

// tableaux returns the number of ways to build a diagram cell by cell, each step being a partition: its dimension.
func tableaux(p []int, known map[string]int) int {
	if len(p) == 0 {
		return 1
	}
	key := fmt.Sprint(p)
	if known[key] == 0 {
		for i := range p {
			q := slices.Clone(p)
			q[i]--
			if i+1 == len(p) || q[i] >= q[i+1] {
				known[key] += tableaux(slices.DeleteFunc(q, func(k int) bool { return k == 0 }), known)
			}
		}
	}
	return known[key]
}

// rimHooksBy returns the rim hooks with k cells: all smaller partitions are tried.
func rimHooksBy(p []int, k int) []api.Hook {
	type found struct {
		first int
		hook  api.Hook
	}
	var list []found
	if k > total(p) {
		return nil
	}
	for _, left := range allPartitions()[total(p)-k] {
		cells, isInside := diagram(p), true
		for c := range diagram(left) {
			isInside = isInside && cells[c]
			delete(cells, c)
		}
		if isInside && isConnectedSet(cells) && !hasFour(cells) {
			first, last := api.MaxParts, 0
			for c := range cells {
				first, last = min(first, c.row), max(last, c.row)
			}
			list = append(list, found{first, api.Hook{Left: left, Height: last - first}})
		}
	}
	slices.SortFunc(list, func(a, b found) int { return a.first - b.first })
	var hooks []api.Hook
	for _, f := range list {
		hooks = append(hooks, f.hook)
	}
	return hooks
}

// isConnectedSet reports whether cells are connected by their sides.
func isConnectedSet(cells map[cell]bool) bool {
	reached := map[cell]bool{}
	var visit func(c cell)
	visit = func(c cell) {
		if cells[c] && !reached[c] {
			reached[c] = true
			visit(cell{c.row + 1, c.column})
			visit(cell{c.row - 1, c.column})
			visit(cell{c.row, c.column + 1})
			visit(cell{c.row, c.column - 1})
		}
	}
	for c := range cells {
		visit(c)
		break
	}
	return len(reached) == len(cells)
}

// hasFour reports whether four cells are a square.
func hasFour(cells map[cell]bool) bool {
	for c := range cells {
		if cells[cell{c.row + 1, c.column}] && cells[cell{c.row, c.column + 1}] && cells[cell{c.row + 1, c.column + 1}] {
			return true
		}
	}
	return false
}

// characterBy returns chi(p, c) without rim hooks, as an alternating sum of characters of permutations (the determinant of Jacobi and Trudi): over all orders s of the rows, with its sign, the number of ways to give each cycle to a row such that row i gets p[i] - i + s[i] things.
func characterBy(p, c []int) int {
	sum, known := 0, map[string]int{}
	for _, s := range permutationsOf(len(p)) {
		rows := slices.Clone(p)
		for i := range rows {
			rows[i] += s[i] - i
		}
		if !slices.ContainsFunc(rows, func(k int) bool { return k < 0 }) {
			sum += signOf(typeBy(s)) * waysToGive(rows, c, known)
		}
	}
	return sum
}

// waysToGive returns the number of ways to give cycles to rows, which they fill.
func waysToGive(rows, cycles []int, known map[string]int) int {
	if len(cycles) == 0 {
		return 1
	}
	key := fmt.Sprint(rows)
	n, ok := known[key]
	if !ok {
		for i, k := range rows {
			if k >= cycles[0] {
				less := slices.Clone(rows)
				less[i] -= cycles[0]
				n += waysToGive(less, cycles[1:], known)
			}
		}
		known[key] = n
	}
	return n
}

// signOf returns the sign of the permutations of a cycle type.
func signOf(c []int) int { return 1 - (total(c)-len(c))%2*2 }

// permutationsOf returns all permutations of 0 to n - 1.
func permutationsOf(n int) [][]int {
	if n == 0 {
		return [][]int{nil}
	}
	var all [][]int
	for _, p := range permutationsOf(n - 1) {
		for i := range n {
			all = append(all, slices.Insert(slices.Clone(p), i, n-1))
		}
	}
	return all
}

// typeBy returns the cycle type of a permutation: the numbers of equal ones among the least elements of all cycles.
func typeBy(f []int) []int {
	sizes := map[int]int{}
	for x := range f {
		least := x
		for y := f[x]; y != x; y = f[y] {
			least = min(least, y)
		}
		sizes[least]++
	}
	var c []int
	for _, k := range sizes {
		c = append(c, k)
	}
	slices.Sort(c)
	slices.Reverse(c)
	return c
}

// commutatorBy returns the commutator of a pair, element by element.
func commutatorBy(r, u []int) []int {
	var f []int
	for x := range r {
		x = u[r[x]]
		f = append(f, slices.Index(u, slices.Index(r, x)))
	}
	return f
}

// isConnectedPair reports whether both permutations lead from 0 to all squares.
func isConnectedPair(r, u []int) bool {
	reached := map[int]bool{}
	var visit func(x int)
	visit = func(x int) {
		if !reached[x] {
			reached[x] = true
			visit(r[x])
			visit(u[x])
		}
	}
	if len(r) > 0 {
		visit(0)
	}
	return len(r) > 0 && len(reached) == len(r)
}

// tally is the pairs of a type.
type tally struct {
	all       int
	connected []api.Origami
}

// tallies returns the pairs of 0 to 5 squares by their sizes and types.
var tallies = sync.OnceValue(func() []map[string]*tally {
	var all []map[string]*tally
	for n := range api.MaxForce + 1 {
		byType := map[string]*tally{}
		for _, c := range allPartitions()[n] {
			byType[fmt.Sprint(c)] = &tally{}
		}
		for _, r := range permutationsOf(n) {
			for _, u := range permutationsOf(n) {
				x := byType[fmt.Sprint(typeBy(commutatorBy(r, u)))]
				x.all++
				if isConnectedPair(r, u) {
					x.connected = append(x.connected, api.Origami{Right: r, Up: u})
				}
			}
		}
		all = append(all, byType)
	}
	return all
})
