package surface_test

import (
	"math/rand"
	"slices"
	"testing"

	"flatland/api"
	"flatland/field"
	"flatland/surface"
)

// P3.6: surfaces that are mapped by a matrix.
func TestApply(t *testing.T) {
	r := rand.New(rand.NewSource(14))
	for range 40 {
		s := random(r, 1+r.Intn(5))
		a, b, c, d := r.Intn(9)-4, r.Intn(9)-4, r.Intn(9)-4, r.Intn(9)-4
		x, e := surface.Apply(untidySurface(r, s), mat(a, b, c, d))
		if a*d-b*c <= 0 {
			wantSame(t, "Apply of a matrix that turns surfaces over", sameSurface, x, e, api.Surface{}, api.ErrZero)
			continue
		}
		y := deep(s)
		for f, edges := range s.Faces {
			for i, v := range edges {
				p := pointOf(v)
				m, n := point{whole(int64(a)), whole(int64(b))}, point{whole(int64(c)), whole(int64(d))}
				y.Faces[f][i] = api.Vec{X: numOf(m.dot(p)), Y: numOf(n.dot(p))}
			}
		}
		wantSame(t, "Apply", sameSurface, x, e, y, api.OK)
		want(t, "Check after Apply", surface.Check(x), api.OK)
	}
	_, eight := octagon(t)
	w := api.Num{C: []api.Int{nil, {1}}}
	for _, c := range []struct {
		what string
		s    api.Surface
		m    api.Mat
		e    api.Errno
	}{
		{"the zero matrix", torus(), api.Mat{}, api.ErrZero},
		{"a matrix of determinant 0", torus(), mat(1, 2, 2, 4), api.ErrZero},
		{"a reflection", torus(), mat(0, 1, 1, 0), api.ErrZero},
		{"half a turn", torus(), mat(-1, 0, 0, -1), api.OK},
		{"the determinant 2 - 1", eight, api.Mat{A: w, B: field.Whole(1), C: field.Whole(1), D: w}, api.OK},
		{"the determinant 1 - 2", eight, api.Mat{A: field.Whole(1), B: w, C: w, D: field.Whole(1)}, api.ErrZero},
		{"no surface", api.Surface{}, api.Mat{}, api.ErrShape},
	} {
		_, e := surface.Apply(c.s, c.m)
		want(t, "Apply of "+c.what, e, c.e)
	}
}

// P3.6: the cut torus is the torus, cut from (0, 2) to (0, 0).
func TestCutExample(t *testing.T) {
	s, e := surface.Cut(torus(), slot(0, 2), slot(0, 0))
	wantSame(t, "Cut of the torus", sameSurface, s, e, cutTorus(), api.OK)
	s, e = surface.Join(cutTorus(), slot(0, 2))
	wantSame(t, "Join of the cut torus", sameSurface, s, e, api.Surface{
		Field: field.Rational(),
		Faces: [][]api.Vec{face(-1, 0, 0, -1, 1, 0, 0, 1)},
		Glue:  [][]api.Slot{partners(0, 2, 0, 3, 0, 0, 0, 1)},
	}, api.OK)
	s, e = surface.Join(cutTorus(), slot(1, 2))
	wantSame(t, "Join of the cut torus from the other side", sameSurface, s, e, torus(), api.OK)
}

// P3.6: the errors of cuts, in their order.
func TestCutErrors(t *testing.T) {
	two := squares([]int{1, 0}, []int{0, 1})
	for _, c := range []struct {
		what     string
		s        api.Surface
		from, to api.Slot
		e        api.Errno
	}{
		{"no surface", api.Surface{}, slot(0, 0), slot(0, 2), api.ErrShape},
		{"no first corner", torus(), slot(0, 4), slot(0, 2), api.ErrMissing},
		{"no second corner", torus(), slot(0, 0), slot(1, 0), api.ErrMissing},
		{"two faces", two, slot(0, 0), slot(1, 2), api.ErrShape},
		{"equal corners", torus(), slot(0, 1), slot(0, 1), api.ErrShape},
		{"neighbours", torus(), slot(0, 1), slot(0, 2), api.ErrShape},
		{"neighbours, the other way around", torus(), slot(0, 2), slot(0, 1), api.ErrShape},
		{"the last corner and the first one", torus(), slot(0, 3), slot(0, 0), api.ErrShape},
		{"the first corner and the last one", torus(), slot(0, 0), slot(0, 3), api.ErrShape},
		{"a triangle", cutTorus(), slot(0, 0), slot(0, 2), api.ErrShape},
		{"a diagonal along two edges", ell(), slot(0, 0), slot(0, 2), api.ErrForm},
		{"a diagonal outside", ell(), slot(0, 3), slot(0, 5), api.ErrForm},
		{"a diagonal through a corner", ell(), slot(0, 2), slot(0, 6), api.ErrForm},
		{"a diagonal that crosses edges", ell(), slot(0, 3), slot(0, 6), api.ErrForm},
		{"a diagonal within", ell(), slot(0, 4), slot(0, 0), api.OK},
		{"a diagonal with a straight corner", ell(), slot(0, 1), slot(0, 4), api.OK},
	} {
		s, e := surface.Cut(c.s, c.from, c.to)
		want(t, "Cut with "+c.what, e, c.e)
		if e != api.OK {
			wantSame(t, "Cut with "+c.what, sameSurface, s, 0, api.Surface{}, 0)
		}
	}
	for _, at := range badSlots() {
		_, e := surface.Cut(torus(), at, slot(0, 0))
		want(t, "Cut from no corner", e, api.ErrMissing)
		_, e = surface.Cut(torus(), slot(0, 0), at)
		want(t, "Cut to no corner", e, api.ErrMissing)
	}
}

// chain returns the slots from one up to the one before another one.
func chain(s api.Surface, from, to api.Slot) []api.Slot {
	l := []api.Slot{from}
	for at := behind(s, from, 1); at != to; at = behind(s, at, 1) {
		l = append(l, at)
	}
	return l
}

// made returns the surface whose faces are made of slots of s, old[i] being those of face i, with the vectors v for slots that s does not have; these are glued in pairs.
func made(s api.Surface, old [][]api.Slot, v map[api.Slot]api.Vec, pairs map[api.Slot]api.Slot) api.Surface {
	place := map[api.Slot]api.Slot{}
	for f, l := range old {
		for e, at := range l {
			place[at] = slot(f, e)
		}
	}
	x := api.Surface{Field: s.Field}
	for _, l := range old {
		var edges []api.Vec
		var glue []api.Slot
		for _, at := range l {
			if u, ok := v[at]; ok {
				edges, glue = append(edges, u), append(glue, place[pairs[at]])
			} else {
				edges, glue = append(edges, edge(s, at)), append(glue, place[partner(s, at)])
			}
		}
		x.Faces, x.Glue = append(x.Faces, edges), append(x.Glue, glue)
	}
	return x
}

// whole faces as lists of slots.
func faces(s api.Surface) [][]api.Slot {
	var l [][]api.Slot
	for f := range s.Faces {
		l = append(l, chain(s, slot(f, 0), slot(f, 0)))
	}
	return l
}

// P3.6, P3.11: cuts of random surfaces, compared with the definition.
func TestCutRandom(t *testing.T) {
	r := rand.New(rand.NewSource(15))
	good, refused := 0, 0
	for range 150 {
		s := random(r, 1+r.Intn(6))
		f := r.Intn(len(s.Faces))
		n := len(s.Faces[f])
		from, to := slot(f, r.Intn(n)), slot(f, r.Intn(n))
		if from == to || behind(s, from, 1) == to || behind(s, to, 1) == from {
			continue
		}
		first, second := chain(s, from, to), chain(s, to, from)
		d := point{whole(0), whole(0)}
		for _, at := range second {
			d = d.plus(pointOf(edge(s, at)))
		}
		side, other := slot(-1, 0), slot(-1, 1)
		v := map[api.Slot]api.Vec{side: {X: numOf(d.x), Y: numOf(d.y)}, other: {X: numOf(sub(whole(0), d.x)), Y: numOf(sub(whole(0), d.y))}}
		l := faces(s)
		l[f] = append(first, side)
		l = append(l, append(second, other))
		y := made(s, l, v, map[api.Slot]api.Slot{side: other, other: side})
		x, e := surface.Cut(untidySurface(r, s), from, to)
		if !isRight(y.Faces[f]) || !isRight(y.Faces[len(y.Faces)-1]) {
			refused++
			wantSame(t, "Cut along no diagonal", sameSurface, x, e, api.Surface{}, api.ErrForm)
			continue
		}
		good++
		wantSame(t, "Cut", sameSurface, x, e, y, api.OK)
		wantKept(t, "Cut", s, x)
		// Joined again, the face begins with the edge behind the diagonal.
		z, e := surface.Join(x, slot(f, len(first)))
		_, g := surface.Match(s, z)
		want(t, "Join of both parts", e, api.OK)
		want(t, "Match of the surface and the joined one", g, api.OK)
	}
	if good < 20 || refused < 20 {
		t.Errorf("%d cuts and %d that are refused", good, refused)
	}
}

// P3.6, P3.11: joined faces of random surfaces, compared with the definition.
func TestJoinRandom(t *testing.T) {
	r := rand.New(rand.NewSource(16))
	count := map[api.Errno]int{}
	for range 60 {
		s := random(r, 2+r.Intn(9))
		for _, at := range slots(s) {
			to := partner(s, at)
			var y api.Surface
			e := api.ErrForm
			if at.Face != to.Face {
				l := faces(s)
				l[at.Face] = slices.Concat(chain(s, behind(s, at, 1), at), chain(s, behind(s, to, 1), to))
				l = slices.Delete(l, to.Face, to.Face+1)
				y = made(s, l, nil, nil)
				f := at.Face
				if f > to.Face {
					f--
				}
				if len(y.Faces[f]) > api.MaxEdges {
					e = api.ErrLarge
				} else if isRight(y.Faces[f]) {
					e = api.OK
				}
			}
			count[e]++
			if e != api.OK {
				y = api.Surface{}
			}
			x, g := surface.Join(untidySurface(r, s), at)
			wantSame(t, "Join", sameSurface, x, g, y, e)
			if e == api.OK && r.Intn(10) == 0 {
				wantKept(t, "Join", s, x)
			}
		}
	}
	if count[api.OK] < 100 || count[api.ErrForm] < 100 {
		t.Errorf("the results are %v", count)
	}
}

// P3.6: the errors of Join, in their order.
func TestJoinErrors(t *testing.T) {
	for _, at := range badSlots() {
		s, e := surface.Join(torus(), at)
		wantSame(t, "Join at no slot", sameSurface, s, e, api.Surface{}, api.ErrMissing)
	}
	_, e := surface.Join(api.Surface{}, slot(0, 0))
	want(t, "Join of no surface", e, api.ErrShape)
	_, e = surface.Join(torus(), slot(0, 0))
	want(t, "Join of a face with itself", e, api.ErrForm)
	_, e = surface.Join(squares([]int{1, 0}, []int{0, 1}), slot(0, 1))
	want(t, "Join of two squares in a row", e, api.OK)
	_, e = surface.Join(rows(3, 1), slot(0, 3))
	want(t, "Join of a row with itself", e, api.ErrForm)
	// Rows of squares that lie above each other have more than one edge in common; of 6 squares they have 14 edges each.
	_, e = surface.Join(rows(5, 2), slot(0, 6))
	want(t, "Join of two rows of 5 squares", e, api.ErrForm)
	_, e = surface.Join(rows(6, 2), slot(0, 7))
	want(t, "Join of two rows of 6 squares", e, api.ErrLarge)
	for n, f := range map[int]api.Errno{24: api.OK, 26: api.ErrLarge} {
		_, e = surface.Join(halves(n), slot(0, n/2))
		want(t, "Join of two halves", e, f)
	}
}

// rows returns a torus of rows of n unit squares, each row being a face of 2 n + 2 edges that begins with those below.
func rows(n, count int) api.Surface {
	s := api.Surface{Field: field.Rational()}
	for k := range count {
		var edges []api.Vec
		var glue []api.Slot
		for i := range n {
			edges = append(edges, vec(1, 0))
			glue = append(glue, slot((k+count-1)%count, 2*n-i))
		}
		edges, glue = append(edges, vec(0, 1)), append(glue, slot(k, 2*n+1))
		for i := range n {
			edges = append(edges, vec(-1, 0))
			glue = append(glue, slot((k+1)%count, n-1-i))
		}
		edges, glue = append(edges, vec(0, -1)), append(glue, slot(k, n))
		s.Faces, s.Glue = append(s.Faces, edges), append(s.Glue, glue)
	}
	return s
}
