package cylinder

import (
	"slices"

	"flatland/api"
)

// successors returns for each closed ray the number of the one that begins at the corner to which one turns at its end; -1 for an open ray.
func (b *body) successors(l []api.Ray, turn func(end api.Slot) api.Slot) []int {
	list := make([]int, len(l))
	for i, x := range l {
		list[i] = -1
		if !x.Open {
			list[i] = b.number[turn(x.To)]
		}
	}
	return list
}

// left returns the left successors of rays.
func (b *body) left(l []api.Ray) []int {
	return b.successors(l, func(end api.Slot) api.Slot { return b.clockwise(end, back, ahead) })
}

// right returns the right successors of rays.
func (b *body) right(l []api.Ray) []int {
	return b.successors(l, func(end api.Slot) api.Slot { return b.counterclockwise(end, back, ahead) })
}

// cycle returns the cycle of successors of a ray, from the least number on; nothing if it is not closed. (Different rays have different successors, so it comes back to the ray itself or to an open one.)
func cycle(next []int, ray int) []int {
	list := []int{ray}
	for i := next[ray]; i != ray; i = next[i] {
		if i < 0 {
			return nil
		}
		list = append(list, i)
	}
	k := slices.Index(list, slices.Min(list))
	return append(list[k:len(list):len(list)], list[:k]...)
}

// cycles returns all closed cycles of successors.
func cycles(next []int) [][]int {
	var list [][]int
	for i := range next {
		if c := cycle(next, i); len(c) > 0 && c[0] == i {
			list = append(list, c)
		}
	}
	return list
}

// decompose returns the decomposition for a bound, l being the traces up to it.
func (b *body) decompose(l []api.Ray, bound, area api.Num) (api.Decomposition, api.Errno) {
	sides := cycles(b.left(l))
	greatest := bound
	for _, below := range sides {
		if t := b.length(l, below); b.Cmp(t, greatest) > 0 {
			greatest = t
		}
	}
	if b.Cmp(greatest, bound) > 0 {
		var e api.Errno
		if l, e = b.traces(greatest); e != api.OK {
			return api.Decomposition{}, e
		}
	}
	x := api.Decomposition{Rays: l, Rest: area}
	n := b.spread(l, true)
	for _, below := range sides {
		c, e := n.cylinder(below)
		if e != api.OK {
			return api.Decomposition{}, e
		}
		x.Cylinders = append(x.Cylinders, c)
		x.Rest = b.Sub(x.Rest, b.area(c))
	}
	return x, api.OK
}

// checkCylinder accepts a cylinder, its sides being numbers in l.
func (b *body) checkCylinder(l []api.Ray, x api.Cylinder) api.Errno {
	if len(x.Below) == 0 || !within(x.Below[0], 0, len(l)-1) || !slices.Equal(x.Below, cycle(b.left(l), x.Below[0])) {
		return api.ErrProof
	}
	traces, e := b.traces(b.length(l, x.Below))
	if e != api.OK {
		return e
	}
	y, e := b.spread(traces, true).cylinder(x.Below)
	switch {
	case e != api.OK:
		return e
	case !slices.Equal(x.Above, y.Above) || b.Cmp(x.T, y.T) != 0 || b.Cmp(x.Height, y.Height) != 0 || b.Cmp(x.Twist, y.Twist) != 0:
		return api.ErrProof
	case slices.ContainsFunc(y.Above, func(i int) bool { return l[i].Open }):
		return api.ErrProof
	}
	return api.OK
}

// area returns the area of a cylinder.
func (b *body) area(x api.Cylinder) api.Num { return b.Mul(x.T, x.Height) }

// modulus returns the modulus of a cylinder.
func (b *body) modulus(x api.Cylinder) api.Num {
	m, _ := b.Quo(x.Height, b.Mul(x.T, b.square))
	return m
}
