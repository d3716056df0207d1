package exchange

import "flatland/api"

// numbering gives values the numbers 0, 1, .. in the order in which they come for the first time. Values with the same key have the same number.
type numbering[T any, K comparable] struct {
	key     func(x T) K
	limit   int
	values  []T
	numbers map[K]int
}

// tooMany is the panic of a numbering that gets more values than its limit.
type tooMany struct{}

// newNumbering returns a numbering without values.
func newNumbering[T any, K comparable](key func(x T) K, limit int) *numbering[T, K] {
	return &numbering[T, K]{key: key, limit: limit, numbers: map[K]int{}}
}

// number returns the number of a value.
func (n *numbering[T, K]) number(x T) int {
	k := n.key(x)
	i, ok := n.numbers[k]
	if !ok {
		i = len(n.values)
		if i == n.limit {
			panic(tooMany{})
		}
		n.values = append(n.values, x)
		n.numbers[k] = i
	}
	return i
}

// all returns the numbers of values.
func (n *numbering[T, K]) all(list []T) []int {
	numbers := make([]int, len(list))
	for i, x := range list {
		numbers[i] = n.number(x)
	}
	return numbers
}

// class returns the Rauzy class of renumbered irreducible rows, or ErrLarge.
func class(r api.Rows) (d api.Diagram, e api.Errno) {
	defer func() {
		switch x := recover().(type) {
		case nil:
		case tooMany:
			d, e = api.Diagram{}, api.ErrLarge
		default:
			panic(x)
		}
	}()
	found := newNumbering(text, api.MaxClass)
	found.number(r)
	// The rows that steps lead to come behind those that are gone through: this is breadth first search.
	for i := 0; i < len(found.values); i++ {
		var next [2]int
		for kind := range next {
			to, _, _ := moved(found.values[i], kind)
			next[kind] = found.number(renumbered(to))
		}
		d.Next = append(d.Next, next)
	}
	d.Rows = found.values
	return d, api.OK
}
