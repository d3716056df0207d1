package origami

import (
	"slices"

	"flatland/api"
	"flatland/field"
)

// The edges of a square, counterclockwise.
const (
	lower = iota
	right
	upper
	left
)

// square returns the edges of a square.
func square() []api.Vec {
	var edges []api.Vec
	for _, v := range [4][2]int{{1, 0}, {0, 1}, {-1, 0}, {0, -1}} {
		edges = append(edges, api.Vec{X: field.Whole(v[0]), Y: field.Whole(v[1])})
	}
	return edges
}

// surfaceOf returns the surface whose faces are the squares.
func surfaceOf(o api.Origami) api.Surface {
	s := api.Surface{Field: field.Rational()}
	back := turned(o)
	for x := range o.Right {
		partners := make([]api.Slot, 4)
		partners[lower] = api.Slot{Face: back.Up[x], Edge: upper}
		partners[right] = api.Slot{Face: o.Right[x], Edge: left}
		partners[upper] = api.Slot{Face: o.Up[x], Edge: lower}
		partners[left] = api.Slot{Face: back.Right[x], Edge: right}
		s.Faces = append(s.Faces, square())
		s.Glue = append(s.Glue, partners)
	}
	return s
}

// fromSurface returns the origami of a surface that was checked.
func fromSurface(s api.Surface) (api.Origami, api.Errno) {
	r, e := field.Open(s.Field)
	if e != api.OK {
		return api.Origami{}, e
	}
	same := func(u, v api.Vec) bool { return r.Cmp(u.X, v.X) == 0 && r.Cmp(u.Y, v.Y) == 0 }
	var o api.Origami
	for f, edges := range s.Faces {
		if !slices.EqualFunc(edges, square(), same) {
			return api.Origami{}, api.ErrForm
		}
		// Glued edges have opposite vectors, so those of squares cannot be glued in another way.
		o = with(o, [2]int{s.Glue[f][right].Face, s.Glue[f][upper].Face})
	}
	return o, api.OK
}
