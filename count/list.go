package count

import (
	"iter"
	"slices"
)

// lists yields the lists that grow from the empty one until nothing can follow; what can follow the elements of a list is given in order. Each one is a new list.
func lists(following func(l []int) []int) iter.Seq[[]int] {
	return func(yield func(l []int) bool) {
		var grow func(l []int) bool
		grow = func(l []int) bool {
			next := following(l)
			for _, x := range next {
				if !grow(append(l, x)) {
					return false
				}
			}
			return len(next) > 0 || yield(slices.Clone(l))
		}
		grow(nil)
	}
}

// partitions yields all partitions of n, in descending lexicographic order.
func partitions(n int) iter.Seq[[]int] {
	return lists(func(p []int) []int {
		most := n - size(p)
		if len(p) > 0 {
			most = min(most, p[len(p)-1])
		}
		var parts []int
		for k := most; k > 0; k-- {
			parts = append(parts, k)
		}
		return parts
	})
}

// permutations yields all permutations of 0 to n - 1, in lexicographic order.
func permutations(n int) iter.Seq[[]int] {
	return lists(func(f []int) []int {
		var unused []int
		for x := range n {
			if !slices.Contains(f, x) {
				unused = append(unused, x)
			}
		}
		return unused
	})
}

// pairs yields all pairs of permutations of 0 to n - 1.
func pairs(n int) iter.Seq2[[]int, []int] {
	return func(yield func(r, u []int) bool) {
		for r := range permutations(n) {
			for u := range permutations(n) {
				if !yield(r, u) {
					return
				}
			}
		}
	}
}

// splits yields all ways to divide the parts of a partition into two partitions, each way once; a way does not tell equal parts apart.
func splits(c []int) iter.Seq2[[]int, []int] {
	return func(yield func(d, e []int) bool) {
		var divide func(rest, d, e []int) bool
		divide = func(rest, d, e []int) bool {
			if len(rest) == 0 {
				return yield(d, e)
			}
			equal := 1
			for equal < len(rest) && rest[equal] == rest[0] {
				equal++
			}
			for k := range equal + 1 {
				if !divide(rest[equal:], slices.Concat(d, rest[:k]), slices.Concat(e, rest[k:equal])) {
					return false
				}
			}
			return true
		}
		divide(c, nil, nil)
	}
}
