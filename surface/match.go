package surface

import (
	"slices"

	"flatland/api"
)

// Match returns the match of two surfaces with the least first slot.
func Match(a, b api.Surface) ([]api.Slot, api.Errno) {
	x, y, e := openBoth(a, b)
	if e != api.OK {
		return nil, e
	}
	if x.isSplit() || y.isSplit() {
		return nil, api.ErrSplit
	}
	if !x.isLike(y) {
		return nil, api.ErrNone
	}
	for at := range y.slots() {
		if m, ok := x.match(y, at); ok {
			return m, api.OK
		}
	}
	return nil, api.ErrNone
}

// CheckMatch accepts a match of two surfaces.
func CheckMatch(a, b api.Surface, m []api.Slot) api.Errno {
	x, y, e := openBoth(a, b)
	if e != api.OK {
		return e
	}
	if !x.isLike(y) || !y.isList(m) {
		return api.ErrProof
	}
	for f := range x.faces {
		if !x.fits(y, m, f) {
			return api.ErrProof
		}
	}
	return api.OK
}

// openBoth checks two surfaces.
func openBoth(a, b api.Surface) (x, y *body, e api.Errno) {
	x, e = open(a)
	if e != api.OK {
		return nil, nil, e
	}
	y, e = open(b)
	return x, y, e
}

// isLike reports whether two surfaces have the same field and equally many faces.
func (x *body) isLike(y *body) bool {
	f, g := x.Field(), y.Field()
	return slices.Equal(f.Poly, g.Poly) && f.Lo == g.Lo && f.Hi == g.Hi && f.Den == g.Den && len(x.faces) == len(y.faces)
}

// isList reports whether a list has one slot of each face.
func (b *body) isList(m []api.Slot) bool {
	seen := map[int]bool{}
	for _, at := range m {
		if !b.has(at) || seen[at.Face] {
			return false
		}
		seen[at.Face] = true
	}
	return len(m) == len(b.faces)
}

// fits reports whether a match is right for the edges of a face.
func (x *body) fits(y *body, m []api.Slot, f int) bool {
	if len(x.faces[f]) != len(y.faces[m[f].Face]) {
		return false
	}
	for e, v := range x.faces[f] {
		at := y.along(m[f], e)
		to := x.glue[f][e]
		if !sameVec(v, y.edge(at)) || y.along(m[to.Face], to.Edge) != y.partner(at) {
			return false
		}
	}
	return true
}

// match returns the match that takes the first slot to a given one, if there is one; both surfaces have one component and equally many faces. (Each face of y is reached then, and so just once.)
func (x *body) match(y *body, first api.Slot) ([]api.Slot, bool) {
	m := make([]api.Slot, len(x.faces))
	m[0] = first
	known := make([]bool, len(x.faces))
	known[0] = true
	for work := []int{0}; len(work) > 0; {
		f := work[len(work)-1]
		work = work[:len(work)-1]
		for e, to := range x.glue[f] {
			if !known[to.Face] {
				known[to.Face] = true
				m[to.Face] = y.along(y.partner(y.along(m[f], e)), -to.Edge)
				work = append(work, to.Face)
			}
		}
		if !x.fits(y, m, f) {
			return nil, false
		}
	}
	return m, true
}
