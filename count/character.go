package count

import (
	"iter"
	"math/bits"

	"flatland/api"
	"flatland/field"
)

// beads are a partition with MaxParts rows, of which the last ones may be empty, as a set of places, the bits of a word: row i stands at the number of its cells plus the number of the rows behind it.
//
// So no two rows stand at the same place. Without a rim hook of k cells the row in which it begins stands k places lower, at one that was empty; the rows that it has passed are the others of the rim hook.
type beads uint64

// beadsOf returns the beads of a partition.
func beadsOf(p []int) beads {
	var b beads
	for i := range api.MaxParts {
		place := api.MaxParts - 1 - i
		if i < len(p) {
			place += p[i]
		}
		b |= 1 << place
	}
	return b
}

// has reports whether a row stands at a place.
func (b beads) has(place int) bool { return b>>place&1 == 1 }

// places yields the places of the rows, the first row being at the highest one.
func (b beads) places() iter.Seq[int] {
	return func(yield func(place int) bool) {
		for place := bits.Len64(uint64(b)) - 1; place >= 0; place-- {
			if b.has(place) && !yield(place) {
				return
			}
		}
	}
}

// between returns the number of rows between two places.
func (b beads) between(low, high int) int {
	return bits.OnesCount64(uint64(b&(1<<high-1)) >> (low + 1))
}

// partition returns the partition of the beads.
func (b beads) partition() []int {
	var p []int
	for place := range b.places() {
		if k := place - b.between(-1, place); k > 0 {
			p = append(p, k)
		}
	}
	return p
}

// without yields what is left without a rim hook of k cells, and its height, in the order of the first rows.
func (b beads) without(k int) iter.Seq2[beads, int] {
	return func(yield func(left beads, height int) bool) {
		for place := range b.places() {
			if place < k || b.has(place-k) {
				continue
			}
			left := b ^ 1<<place ^ 1<<(place-k)
			if !yield(left, b.between(place-k, place)) {
				return
			}
		}
	}
}

// charactersAt returns the function that computes the characters at a cycle type (Murnaghan and Nakayama).
func charactersAt(c []int) func(p []int) int {
	known := map[beads]int{beadsOf(nil): 1} // a partition is met with the same cycles each time, as its size tells them
	var chi func(b beads, cycles []int) int
	chi = func(b beads, cycles []int) int {
		value, ok := known[b]
		if ok {
			return value
		}
		for left, height := range b.without(cycles[0]) {
			if height%2 == 0 {
				value += chi(left, cycles[1:])
			} else {
				value -= chi(left, cycles[1:])
			}
		}
		known[b] = value
		return value
	}
	return func(p []int) int { return chi(beadsOf(p), c) }
}

// table returns the characters of all partitions of n.
func table(n int) [][][]int {
	var columns []func(p []int) int
	for c := range partitions(n) {
		columns = append(columns, charactersAt(c))
	}
	var rows [][][]int
	for p := range partitions(n) {
		var row [][]int
		for _, chi := range columns {
			row = append(row, field.Of(chi(p)))
		}
		rows = append(rows, row)
	}
	return rows
}
