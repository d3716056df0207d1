package surface_test

import (
	"math/rand"
	"testing"

	"flatland/api"
	"flatland/surface"
)

// isMatch reports whether a list is a match.
func isMatch(a, b api.Surface, m []api.Slot) bool {
	if !sameField(a.Field, b.Field) || len(m) != len(a.Faces) || len(m) != len(b.Faces) {
		return false
	}
	seen := map[int]bool{}
	image := func(at api.Slot) api.Slot {
		to := m[at.Face]
		return slot(to.Face, (to.Edge+at.Edge)%len(b.Faces[to.Face]))
	}
	for f, to := range m {
		if to.Face < 0 || to.Face >= len(b.Faces) || seen[to.Face] || to.Edge < 0 || to.Edge >= len(b.Faces[to.Face]) || len(a.Faces[f]) != len(b.Faces[to.Face]) {
			return false
		}
		seen[to.Face] = true
	}
	for _, at := range slots(a) {
		if !sameVec(edge(a, at), edge(b, image(at))) || partner(b, image(at)) != image(partner(a, at)) {
			return false
		}
	}
	return true
}

// lists calls a function with all lists of n slots of a surface.
func lists(s api.Surface, n int, l []api.Slot, use func(l []api.Slot)) {
	if len(l) == n {
		use(l)
		return
	}
	for _, at := range slots(s) {
		lists(s, n, append(l, at), use)
	}
}

// P3.5: matches of small surfaces, compared with all lists of slots.
func TestMatchAll(t *testing.T) {
	r := rand.New(rand.NewSource(11))
	found := 0
	for range 60 {
		n := 1 + r.Intn(3)
		a := squares(connected(r, n))
		b := squares(connected(r, 1+r.Intn(3)))
		if r.Intn(2) == 0 {
			b, _ = renamed(r, a)
		}
		var first []api.Slot
		lists(b, n, nil, func(m []api.Slot) {
			e := api.ErrProof
			if isMatch(a, b, m) {
				e = api.OK
				if first == nil {
					first = append(first, m...)
				}
			}
			want(t, "CheckMatch", surface.CheckMatch(a, b, m), e)
		})
		e := api.OK
		if first == nil {
			e = api.ErrNone
		} else {
			found++
		}
		m, f := surface.Match(untidySurface(r, a), untidySurface(r, b))
		wantList(t, "Match", m, f, first, e)
	}
	if found < 25 || found > 55 {
		t.Errorf("%d of the surfaces match", found)
	}
}

// P3.5: matches of surfaces with other faces.
func TestMatchRenamed(t *testing.T) {
	r := rand.New(rand.NewSource(12))
	_, eight := octagon(t)
	_, five := pentagons(t)
	list := []api.Surface{torus(), ell(), cutTorus(), eight, five}
	for range 60 {
		list = append(list, random(r, 1+r.Intn(8)))
	}
	for _, a := range list {
		b, m := renamed(r, a)
		want(t, "CheckMatch", surface.CheckMatch(untidySurface(r, a), untidySurface(r, b), m), api.OK)
		got, e := surface.Match(untidySurface(r, a), untidySurface(r, b))
		want(t, "Match", e, api.OK)
		want(t, "the match", isMatch(a, b, got), true)
		want(t, "the least match", less(got[0], m[0]) <= 0, true)
		// Another partner, vector, or field is no match.
		other := deep(b)
		other.Field.Hi++
		_, e = surface.Match(a, other)
		if surface.Check(other) == api.OK {
			want(t, "Match over another field", e, api.ErrNone)
			want(t, "CheckMatch over another field", surface.CheckMatch(a, other, m), api.ErrProof)
		}
		other, _ = surface.Apply(b, mat(2, 0, 0, 1))
		_, e = surface.Match(a, other)
		want(t, "Match with other vectors", e, api.ErrNone)
		want(t, "CheckMatch with other vectors", surface.CheckMatch(a, other, m), api.ErrProof)
		double := append(deep(m), m[0])
		want(t, "CheckMatch with a slot more", surface.CheckMatch(a, b, double), api.ErrProof)
		want(t, "CheckMatch with a slot less", surface.CheckMatch(a, b, m[1:]), api.ErrProof)
		want(t, "CheckMatch without slots", surface.CheckMatch(a, b, nil), api.ErrProof)
		for _, at := range badSlots() {
			double = deep(m)
			double[r.Intn(len(m))] = at
			want(t, "CheckMatch with no such slot", surface.CheckMatch(a, b, double), api.ErrProof)
		}
	}
}

// P3.5: errors, and more than one component.
func TestMatchErrors(t *testing.T) {
	two := both(torus(), ell())
	for _, c := range []struct {
		what string
		a, b api.Surface
		e    api.Errno
	}{
		{"the torus twice", torus(), torus(), api.OK},
		{"no surface and two components", api.Surface{}, two, api.ErrShape},
		{"two components and no surface", two, api.Surface{}, api.ErrShape},
		{"another one that is wrong", torus(), changedTorus(func(s *api.Surface) { s.Glue[0][0] = slot(0, 0) }), api.ErrGlue},
		{"a first one that is wrong", changedTorus(func(s *api.Surface) { s.Glue[0][0] = slot(0, 9) }), changedTorus(func(s *api.Surface) { s.Glue[0][0] = slot(0, 0) }), api.ErrMissing},
		{"two components at first", two, torus(), api.ErrSplit},
		{"two components at last", torus(), two, api.ErrSplit},
		{"two components twice", two, two, api.ErrSplit},
		{"another number of faces", torus(), cutTorus(), api.ErrNone},
		{"another number of edges", torus(), ell(), api.ErrNone},
		{"squares in a row and in a column", squares([]int{1, 0}, []int{0, 1}), squares([]int{0, 1}, []int{1, 0}), api.ErrNone},
	} {
		_, e := surface.Match(c.a, c.b)
		want(t, "Match of "+c.what, e, c.e)
		f := api.ErrProof
		if c.e != api.OK && c.e != api.ErrNone && c.e != api.ErrSplit {
			f = c.e
		}
		want(t, "CheckMatch of "+c.what, surface.CheckMatch(c.a, c.b, nil), f)
	}
	want(t, "CheckMatch of two components", surface.CheckMatch(two, two, partners(0, 0, 1, 0)), api.OK)
	want(t, "CheckMatch of two components in another order", surface.CheckMatch(two, both(ell(), torus()), partners(1, 0, 0, 0)), api.OK)
	want(t, "CheckMatch of two components with one face twice", surface.CheckMatch(both(torus(), torus()), both(torus(), torus()), partners(0, 0, 0, 0)), api.ErrProof)
	// A covering is no match: two squares and one.
	want(t, "CheckMatch of a covering", surface.CheckMatch(squares([]int{1, 0}, []int{0, 1}), torus(), partners(0, 0, 0, 0)), api.ErrProof)
	want(t, "CheckMatch of a part", surface.CheckMatch(torus(), both(torus(), torus()), partners(0, 0)), api.ErrProof)
}

// P3.5, P3.11: surfaces with one component have the same label just if their cells match.
func TestMatchLabels(t *testing.T) {
	r := rand.New(rand.NewSource(13))
	same := 0
	for range 200 {
		n := 1 + r.Intn(4)
		a, b := squares(connected(r, n)), squares(connected(r, n))
		m := mat(1, r.Intn(3)-1, 0, 1)
		a, _ = surface.Apply(a, m)
		b, _ = surface.Apply(b, m)
		x, e := surface.Cells(jumbled(r, a, n))
		y, f := surface.Cells(jumbled(r, b, n))
		want(t, "Cells", e, api.OK)
		want(t, "Cells", f, api.OK)
		l, _ := surface.Label(a)
		k, _ := surface.Label(b)
		e = api.ErrNone
		if l == k {
			e = api.OK
			same++
		}
		_, f = surface.Match(x, y)
		want(t, "Match of cells", f, e)
	}
	if same < 20 || same > 180 {
		t.Errorf("%d of the labels are the same", same)
	}
}
