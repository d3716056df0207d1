package count

import (
	"cmp"
	"slices"

	"flatland/api"
	"flatland/field"
	"flatland/origami"
)

// lengths returns the lengths of cycles, descending.
func lengths(cycles [][]int) []int {
	var c []int
	for _, cycle := range cycles {
		c = append(c, len(cycle))
	}
	slices.Sort(c)
	slices.Reverse(c)
	return c
}

// commutator returns the permutation that is first r, then u, then the inverse of r, then the inverse of u.
func commutator(r, u []int) []int {
	back := make([]int, len(r)) // the inverse of r, then the inverse of u
	for x, y := range u {
		back[r[y]] = x
	}
	f := make([]int, len(r))
	for x, y := range r {
		f[x] = back[u[y]]
	}
	return f
}

// force counts the pairs of a type by going through all.
func force(c []int) int {
	found := 0
	count := func(r, u []int) {
		cycles, _ := origami.Cycles(commutator(r, u))
		if slices.Equal(lengths(cycles), c) {
			found++
		}
	}
	for r, u := range pairs(size(c)) {
		count(r, u)
	}
	return found
}

// pairCount counts the pairs of a type by characters (Frobenius).
func pairCount(c []int) []int {
	chi := charactersAt(c)
	var sum []int
	for p := range partitions(size(c)) {
		// n!/f(p) is the product of the hooks.
		sum = field.Add(sum, field.Mul(field.Of(chi(p)), field.Of(hookProduct(p))))
	}
	return field.Mul(field.Of(classSize(c)), sum)
}

// kept returns a function with the same results, which computes each one only once.
func kept(count func(c []int) []int) func(c []int) []int {
	known := map[beads][]int{}
	return func(c []int) []int {
		key := beadsOf(c)
		value, ok := known[key]
		if !ok {
			value = count(c)
			known[key] = value
		}
		return value
	}
}

// connectedCount counts the connected pairs of a type: from all pairs those are taken away in which the component of square 0 has the type d, and not all squares.
func connectedCount(c []int) []int {
	all := kept(pairCount)
	var connected func(c []int) []int
	connected = kept(func(c []int) []int {
		n := size(c)
		if n == 0 {
			return nil
		}
		count := all(c)
		for d, e := range splits(c) {
			if len(d) == 0 || len(e) == 0 {
				continue
			}
			squares := field.Of(choices(n-1, size(d)-1))
			count = field.Sub(count, field.Mul(squares, field.Mul(connected(d), all(e))))
		}
		return count
	})
	return connected(c)
}

// classes returns the labels of the connected origamis of a type, ascending.
func classes(c []int) []api.Origami {
	n, orders := size(c), ordersOf(c)
	var labels []api.Origami
	for p := range partitions(n) {
		// One right permutation of each cycle type is enough: the origamis with another one are renumbered.
		right := withCycles(p)
		for up := range permutations(n) {
			o := api.Origami{Right: right, Up: up}
			// One that is not connected has no stratum.
			if found, e := origami.Stratum(o); e == api.OK && slices.Equal(found, orders) {
				label, _, _ := origami.Label(o)
				labels = append(labels, label)
			}
		}
	}
	slices.SortFunc(labels, compare)
	return slices.CompactFunc(labels, func(a, b api.Origami) bool { return compare(a, b) == 0 })
}

// withCycles returns a permutation of a cycle type.
func withCycles(c []int) []int {
	var f []int
	for _, k := range c {
		first := len(f)
		for i := range k {
			f = append(f, first+(i+1)%k)
		}
	}
	return f
}

// compare compares origamis as lists, Right first, then Up.
func compare(a, b api.Origami) int {
	return cmp.Or(slices.Compare(a.Right, b.Right), slices.Compare(a.Up, b.Up))
}
