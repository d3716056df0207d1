package count

import "slices"

// size returns the sum of a list.
func size(p []int) int {
	n := 0
	for _, k := range p {
		n += k
	}
	return n
}

// conjugate returns the partition whose rows are the columns.
func conjugate(p []int) []int {
	if len(p) == 0 {
		return nil
	}
	columns := make([]int, p[0])
	for _, k := range p {
		for j := range k {
			columns[j]++
		}
	}
	return columns
}

// hooks returns the sizes of the hooks, row by row.
func hooks(p []int) [][]int {
	columns := conjugate(p)
	var rows [][]int
	for i, k := range p {
		row := make([]int, k)
		for j := range row {
			right, below := k-j-1, columns[j]-i-1
			row[j] = 1 + right + below
		}
		rows = append(rows, row)
	}
	return rows
}

// hookProduct returns the product of the sizes of all hooks.
func hookProduct(p []int) int {
	product := 1
	for _, row := range hooks(p) {
		for _, h := range row {
			product *= h
		}
	}
	return product
}

// dimension returns the dimension of the character of a partition.
func dimension(p []int) int { return factorial(size(p)) / hookProduct(p) }

// centralizer returns the number of permutations that commute with one of a cycle type.
func centralizer(c []int) int {
	product, equal := 1, 0
	for i, k := range c {
		if i > 0 && k != c[i-1] {
			equal = 0
		}
		// One factor k for each cycle; of m equal ones the factors 1, .., m besides.
		equal++
		product *= k * equal
	}
	return product
}

// classSize returns the number of permutations of a cycle type.
func classSize(c []int) int { return factorial(size(c)) / centralizer(c) }

// ordersOf returns the orders of the vertices of a type.
func ordersOf(c []int) []int {
	var orders []int
	for _, k := range c {
		orders = append(orders, k-1)
	}
	return orders
}

// typeOf returns the type of n squares whose vertices have these orders, and otherwise the order 0.
func typeOf(n int, orders []int) []int {
	var c []int
	for _, d := range orders {
		c = append(c, d+1)
	}
	c = append(c, slices.Repeat([]int{1}, n-size(c))...)
	slices.Sort(c)
	slices.Reverse(c)
	return c
}
