package count

import (
	"fmt"
	"slices"
	"testing"
)

// P9.6: the ways to divide a partition into two, each way once; the parts of both descend.
func TestSplits(t *testing.T) {
	var all []string
	for d, e := range splits([]int{3, 1, 1}) {
		all = append(all, fmt.Sprint(d, e))
	}
	slices.Sort(all)
	right := []string{"[1 1] [3]", "[1] [3 1]", "[3 1 1] []", "[3 1] [1]", "[3] [1 1]", "[] [3 1 1]"}
	if !slices.Equal(all, right) {
		t.Errorf("%q, want %q", all, right)
	}
}

// R2: a loop over any of the yielding functions may be left at any place.
func TestLeftLoops(t *testing.T) {
	loops := map[string]func(leave func() bool){
		"partitions": func(leave func() bool) {
			for range partitions(6) {
				if leave() {
					return
				}
			}
		},
		"permutations": func(leave func() bool) {
			for range permutations(3) {
				if leave() {
					return
				}
			}
		},
		"pairs": func(leave func() bool) {
			for range pairs(3) {
				if leave() {
					return
				}
			}
		},
		"splits": func(leave func() bool) {
			for range splits([]int{3, 2, 2, 1}) {
				if leave() {
					return
				}
			}
		},
		"places": func(leave func() bool) {
			for range beadsOf([]int{3, 1}).places() {
				if leave() {
					return
				}
			}
		},
		"without": func(leave func() bool) {
			for range beadsOf([]int{4, 2, 1}).without(1) {
				if leave() {
					return
				}
			}
		},
	}
	lengths := map[string]int{"partitions": 11, "permutations": 6, "pairs": 36, "splits": 12, "places": 20, "without": 3}
	for name, loop := range loops {
		for most := range lengths[name] + 2 {
			n := 0
			loop(func() bool { n++; return n >= most })
			if n != max(1, min(most, lengths[name])) {
				t.Errorf("%s: %d of at most %d", name, n, most)
			}
		}
	}
}

// P9.2: beads and partitions belong to each other, and no two partitions have the same ones, as long as they have at most MaxParts rows and cells.
func TestBeads(t *testing.T) {
	found := map[beads]bool{}
	for n := range 21 {
		for p := range partitions(n) {
			b := beadsOf(p)
			if found[b] || !slices.Equal(b.partition(), p) {
				t.Errorf("the beads of %v: %b", p, b)
			}
			found[b] = true
		}
	}
}
