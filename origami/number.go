package origami

import (
	"slices"

	"flatland/api"
)

// neighbours returns the right and the upper neighbour of a square.
func neighbours(o api.Origami, x int) [2]int { return [2]int{o.Right[x], o.Up[x]} }

// numbering gives squares the numbers 0, 1, .. in the order in which they come for the first time.
type numbering struct {
	squares []int       // by their numbers
	numbers map[int]int // of the squares
}

// numberingFrom returns the numbering in which only one square has a number.
func numberingFrom(first int) *numbering {
	return &numbering{squares: []int{first}, numbers: map[int]int{first: 0}}
}

// number returns the number of a square, the next one if it has none yet.
func (n *numbering) number(x int) int {
	i, ok := n.numbers[x]
	if !ok {
		i = len(n.squares)
		n.squares = append(n.squares, x)
		n.numbers[x] = i
	}
	return i
}

// around returns the numbers of the right and the upper neighbour of the square number i.
func (n *numbering) around(o api.Origami, i int) [2]int {
	var numbers [2]int
	for k, x := range neighbours(o, n.squares[i]) {
		numbers[k] = n.number(x)
	}
	return numbers
}

// reached returns the squares of the component of a square.
func reached(o api.Origami, first int) []int {
	n := numberingFrom(first)
	for i := 0; i < len(n.squares); i++ {
		n.around(o, i)
	}
	return n.squares
}

// isSplit reports whether there is more than one component.
func isSplit(o api.Origami) bool { return len(reached(o, 0)) < len(o.Right) }

// components returns the squares of each component, ascending.
func components(o api.Origami) [][]int {
	var list [][]int
	done := make([]bool, len(o.Right))
	for first := range done {
		if done[first] {
			continue
		}
		squares := reached(o, first)
		for _, x := range squares {
			done[x] = true
		}
		slices.Sort(squares)
		list = append(list, squares)
	}
	return list
}

// part returns the origami of the squares of a component, numbered in the order of the list.
func part(o api.Origami, squares []int) api.Origami {
	n := numberingFrom(squares[0])
	for _, x := range squares {
		n.number(x)
	}
	var p api.Origami
	for i := range squares {
		p = with(p, n.around(o, i))
	}
	return p
}

// with returns the origami with one square more, which has these neighbours.
func with(o api.Origami, next [2]int) api.Origami {
	return api.Origami{Right: append(o.Right, next[0]), Up: append(o.Up, next[1])}
}

// label returns the label of a connected origami, and the numbering that makes it.
func label(o api.Origami) (least api.Origami, numbers []int) {
	for first := range o.Right {
		n := numberingFrom(first)
		if made, ok := n.makeLess(o, least); ok {
			least, numbers = made, inverse(n.squares)
		}
	}
	return least, numbers
}

// makeLess returns the origami that the numbering makes, if it is less than another one; each one is less than the one without squares. It is not gone through to the end if its first squares show that it is not less.
func (n *numbering) makeLess(o, than api.Origami) (made api.Origami, ok bool) {
	less := len(than.Right) == 0
	for i := 0; i < len(n.squares); i++ {
		next := n.around(o, i)
		if !less && next[0] > than.Right[i] {
			return api.Origami{}, false
		}
		less = less || next[0] < than.Right[i]
		made = with(made, next)
	}
	return made, less || slices.Compare(made.Up, than.Up) < 0
}
