package surface_test

import (
	"cmp"
	"math"
	"math/rand"
	"slices"
	"testing"

	"flatland/api"
	"flatland/surface"
)

// less compares two slots by their faces, and then by their edges.
func less(a, b api.Slot) int { return cmp.Or(cmp.Compare(a.Face, b.Face), cmp.Compare(a.Edge, b.Edge)) }

// P3.2: example 1.
func TestVerticesExample(t *testing.T) {
	for _, c := range []struct {
		what    string
		s       api.Surface
		corners []api.Slot
		angle   int
		genus   int
	}{
		{"the torus", torus(), partners(0, 0, 0, 1, 0, 2, 0, 3), 1, 1},
		{"the L", ell(), partners(0, 0, 0, 2, 0, 3, 0, 7, 0, 4, 0, 1, 0, 5, 0, 6), 3, 2},
	} {
		l, e := surface.Vertices(c.s)
		want(t, "Vertices of "+c.what, len(l), 1)
		wantList(t, "Vertices of "+c.what, l[0], e, c.corners, api.OK)
		a, e := surface.Angles(c.s)
		wantList(t, "Angles of "+c.what, a, e, []int{c.angle}, api.OK)
		a, e = surface.Stratum(c.s)
		wantList(t, "Stratum of "+c.what, a, e, []int{c.angle - 1}, api.OK)
		g, e := surface.Genus(c.s)
		wantList(t, "Genus of "+c.what, []int{g}, e, []int{c.genus}, api.OK)
	}
}

// P3.2: more than one component.
func TestSplit(t *testing.T) {
	s := both(both(torus(), cutTorus()), ell())
	c, e := surface.Components(s)
	wantList(t, "Components", c, e, []int{0, 1, 1, 2}, api.OK)
	a, e := surface.Angles(s)
	wantList(t, "Angles", a, e, []int{1, 1, 3}, api.OK)
	a, e = surface.Stratum(s)
	wantList(t, "Stratum", a, e, nil, api.ErrSplit)
	g, e := surface.Genus(s)
	wantList(t, "Genus", []int{g}, e, []int{0}, api.ErrSplit)
	l, e := surface.Label(s)
	want(t, "Label", l, "")
	want(t, "Label", e, api.ErrSplit)
	// The faces 0 and 2 of what follows are one component, 1 and 3 the other one.
	s = squares([]int{2, 1, 0, 3}, []int{0, 3, 2, 1})
	c, e = surface.Components(s)
	wantList(t, "Components", c, e, []int{0, 1, 0, 1}, api.OK)
}

// classes returns for each corner the least one of its vertex: the beginning of an edge is the same point as the end of its partner.
func classes(s api.Surface) map[api.Slot]api.Slot {
	class := map[api.Slot]api.Slot{}
	for _, at := range slots(s) {
		class[at] = at
	}
	for range class {
		for _, at := range slots(s) {
			end := behind(s, partner(s, at), 1)
			if less(class[at], class[end]) < 0 {
				class[end] = class[at]
			} else {
				class[at] = class[end]
			}
		}
	}
	return class
}

// angleOf returns the angle of a corner in full turns, about.
func angleOf(s api.Surface, at api.Slot) float64 {
	float := func(x api.Num) float64 { f, _ := rat(x).Float64(); return f }
	u, v := edge(s, at), edge(s, behind(s, at, -1))
	a := math.Atan2(-float(v.Y), -float(v.X)) - math.Atan2(float(u.Y), float(u.X))
	if a < 0 {
		a += 2 * math.Pi
	}
	return a / 2 / math.Pi
}

// P3.2: vertices and angles of random surfaces, compared with the definition.
func TestVerticesRandom(t *testing.T) {
	r := rand.New(rand.NewSource(3))
	for range 60 {
		s := random(r, 1+r.Intn(6))
		class := classes(s)
		l, e := surface.Vertices(untidySurface(r, s))
		want(t, "Vertices", e, api.OK)
		angles, e := surface.Angles(untidySurface(r, s))
		want(t, "Angles", e, api.OK)
		want(t, "the number of angles", len(angles), len(l))
		var firsts, all []api.Slot
		var orders []int
		sum := 0
		for i, cycle := range l {
			firsts = append(firsts, cycle[0])
			all = append(all, cycle...)
			turns := 0.0
			for k, at := range cycle {
				want(t, "the class of a corner", class[at], cycle[0])
				want(t, "the next corner", cycle[(k+1)%len(cycle)], partner(s, behind(s, at, -1)))
				turns += angleOf(s, at)
			}
			want(t, "the angle", angles[i], int(math.Round(turns)))
			orders = append(orders, angles[i]-1)
			sum += angles[i] - 1
		}
		want(t, "the vertices ascend", slices.IsSortedFunc(firsts, less), true)
		slices.SortFunc(all, less)
		wantList(t, "all corners", all, 0, slots(s), 0)
		slices.SortFunc(orders, func(a, b int) int { return b - a })
		stratum, e := surface.Stratum(s)
		wantList(t, "Stratum", stratum, e, orders, api.OK)
		g, e := surface.Genus(s)
		wantList(t, "Genus", []int{2*g - 2}, e, []int{sum}, api.OK)
		// P3.11: the Euler characteristic.
		want(t, "the sum of the orders", sum, len(all)/2-len(s.Faces)-len(l))
	}
}

// P3.2: surfaces over other fields.
func TestVerticesFields(t *testing.T) {
	_, eight := octagon(t)
	_, five := pentagons(t)
	for _, s := range []api.Surface{eight, five} {
		l, e := surface.Stratum(s)
		wantList(t, "Stratum", l, e, []int{2}, api.OK)
		g, e := surface.Genus(s)
		wantList(t, "Genus", []int{g}, e, []int{2}, api.OK)
	}
	l, e := surface.Angles(both(squares([]int{1, 0}, []int{0, 1}), ell()))
	wantList(t, "Angles with marked points", l, e, []int{1, 1, 3}, api.OK)
	l, e = surface.Stratum(squares([]int{1, 2, 3, 0}, []int{3, 0, 1, 2}))
	wantList(t, "Stratum with marked points", l, e, []int{0, 0, 0, 0}, api.OK)
}

// P3.2: components of random surfaces, compared with the definition.
func TestComponentsRandom(t *testing.T) {
	r := rand.New(rand.NewSource(4))
	for range 60 {
		n := 1 + r.Intn(7)
		s := squares(r.Perm(n), r.Perm(n))
		number := make([]int, n)
		for f := range number {
			number[f] = f
		}
		for range n {
			for f, l := range s.Glue {
				for _, to := range l {
					number[f] = min(number[f], number[to.Face])
				}
			}
		}
		var firsts []int
		for f, k := range number {
			if k == f {
				firsts = append(firsts, f)
			}
			number[f] = slices.Index(firsts, k)
		}
		c, e := surface.Components(s)
		wantList(t, "Components", c, e, number, api.OK)
	}
}
