package surface

import (
	"slices"

	"flatland/api"
	"flatland/billiard"
	"flatland/field"
)

// sheets are the faces of the unfolding of a table: one for each element of its group.
type sheets struct {
	plane
	group  []api.Mat
	turned []bool // the table is turned over: its sides run the other way around
	sides  []api.Vec
}

// Unfold returns the surface to which a table unfolds.
func Unfold(t api.Table) (api.Unfolding, api.Errno) {
	x, e := openSheets(t)
	if e != api.OK {
		return api.Unfolding{}, e
	}
	u := api.Unfolding{Group: x.group, Surface: api.Surface{Field: x.Field()}}
	mirrors := make([]api.Mat, len(x.sides))
	for i := range mirrors {
		mirrors[i], _ = billiard.Reflection(t, i)
	}
	for k := range x.group {
		edges, glue, sides := x.sheet(k, mirrors)
		u.Surface.Faces = append(u.Surface.Faces, edges)
		u.Surface.Glue = append(u.Surface.Glue, glue)
		u.Sides = append(u.Sides, sides)
	}
	return u, api.OK
}

// Fold returns the state of the table to which a crossing of its unfolding belongs.
func Fold(t api.Table, c api.Crossing) (api.State, api.Errno) {
	x, e := openSheets(t)
	if e != api.OK {
		return api.State{}, e
	}
	k := c.At.Face
	if !within(k, 0, len(x.group)-1) || !within(c.At.Edge, 0, len(x.sides)-1) {
		return api.State{}, api.ErrMissing
	}
	if e := x.checkCrossing(c, x.edge(k, c.At.Edge)); e != api.OK {
		return api.State{}, e
	}
	s := api.State{Side: x.side(k, c.At.Edge), T: x.Normal(c.T), Dir: x.back(k, c.Dir)}
	if x.turned[k] {
		s.T = x.Sub(field.Whole(1), s.T)
	}
	return s, api.OK
}

// openSheets checks a table and finds its group.
func openSheets(t api.Table) (*sheets, api.Errno) {
	group, e := billiard.Group(t)
	if e != api.OK {
		return nil, e
	}
	r, e := field.Open(t.Field)
	x := &sheets{plane: plane{r}, group: group}
	for i, v := range t.Corners {
		x.sides = append(x.sides, x.minus(t.Corners[(i+1)%len(t.Corners)], v))
	}
	for _, m := range group {
		x.turned = append(x.turned, x.Cmp(x.Mul(m.A, m.D), x.Mul(m.B, m.C)) < 0)
	}
	return x, e
}

// sheet returns the edges of face k, their partners, and their sides of the table.
func (x *sheets) sheet(k int, mirrors []api.Mat) (edges []api.Vec, glue []api.Slot, sides []int) {
	for e := range x.sides {
		i := x.side(k, e)
		m := x.Product(x.group[k], mirrors[i])
		j := slices.IndexFunc(x.group, func(g api.Mat) bool { return sameMat(g, m) })
		edges = append(edges, x.edge(k, e))
		glue = append(glue, api.Slot{Face: j, Edge: x.side(j, i)})
		sides = append(sides, i)
	}
	return edges, glue, sides
}

// side returns the side of the table that is an edge of face k; or likewise the edge that is a side.
func (x *sheets) side(k, e int) int {
	if x.turned[k] {
		return len(x.sides) - 1 - e
	}
	return e
}

// edge returns the vector of an edge of face k.
func (x *sheets) edge(k, e int) api.Vec {
	v := x.Apply(x.group[k], x.sides[x.side(k, e)])
	if x.turned[k] {
		return x.negative(v)
	}
	return v
}

// back returns the vector that element k of the group takes to v. The elements are products of reflections, so the rows of one are the columns of its inverse.
func (x *sheets) back(k int, v api.Vec) api.Vec {
	m := x.group[k]
	m.B, m.C = m.C, m.B
	return x.Apply(m, v)
}

// sameMat reports whether two matrices in normal form are equal.
func sameMat(m, n api.Mat) bool {
	return sameNum(m.A, n.A) && sameNum(m.B, n.B) && sameNum(m.C, n.C) && sameNum(m.D, n.D)
}
