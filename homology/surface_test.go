package homology_test

import (
	"math/rand"
	"slices"
	"testing"

	"flatland/api"
	"flatland/field"
	"flatland/homology"
	"flatland/origami"
	"flatland/surface"
)

// squareTorus, wideEll and triangles are surfaces of one and of two faces.
func squareTorus() api.Surface {
	return api.Surface{Field: field.Rational(), Faces: [][]api.Vec{face(1, 0, 0, 1, -1, 0, 0, -1)}, Glue: [][]api.Slot{partners(0, 2, 0, 3, 0, 0, 0, 1)}}
}

func wideEll() api.Surface {
	return api.Surface{
		Field: field.Rational(),
		Faces: [][]api.Vec{face(1, 0, 1, 0, 0, 1, -1, 0, 0, 1, -1, 0, 0, -1, 0, -1)},
		Glue:  [][]api.Slot{partners(0, 5, 0, 3, 0, 7, 0, 1, 0, 6, 0, 0, 0, 4, 0, 2)},
	}
}

func triangles() api.Surface {
	return api.Surface{
		Field: field.Rational(),
		Faces: [][]api.Vec{face(-1, 0, 0, -1, 1, 1), face(1, 0, 0, 1, -1, -1)},
		Glue:  [][]api.Slot{partners(1, 0, 1, 1, 1, 2), partners(0, 0, 0, 1, 0, 2)},
	}
}

// root returns a + b w.
func root(a, b int) api.Num { return api.Num{C: []api.Int{{a}, {b}}} }

// octagon is a surface of genus 2 over the field of the square root of 2: an octagon with sides of the length w, opposite ones glued.
func octagon() api.Surface {
	f, _ := field.Root(2)
	s := api.Surface{Field: f, Glue: [][]api.Slot{nil}}
	edges := []api.Vec{
		{X: root(0, 1), Y: root(0, 0)}, {X: root(1, 0), Y: root(1, 0)}, {X: root(0, 0), Y: root(0, 1)}, {X: root(-1, 0), Y: root(1, 0)},
		{X: root(0, -1), Y: root(0, 0)}, {X: root(-1, 0), Y: root(-1, 0)}, {X: root(0, 0), Y: root(0, -1)}, {X: root(1, 0), Y: root(-1, 0)},
	}
	s.Faces = [][]api.Vec{edges}
	for i := range edges {
		s.Glue[0] = append(s.Glue[0], api.Slot{Face: 0, Edge: (i + 4) % 8})
	}
	return s
}

// together returns two surfaces over one field as one.
func together(a, b api.Surface) api.Surface {
	s := api.Surface{Field: a.Field, Faces: slices.Concat(a.Faces, b.Faces), Glue: slices.Clone(a.Glue)}
	for _, list := range b.Glue {
		var next []api.Slot
		for _, to := range list {
			next = append(next, api.Slot{Face: to.Face + len(a.Faces), Edge: to.Edge})
		}
		s.Glue = append(s.Glue, next)
	}
	return s
}

// surfaces returns valid surfaces of all kinds.
func surfaces(t *testing.T) map[string]api.Surface {
	t.Helper()
	cut, e := surface.Cut(octagon(), api.Slot{Edge: 1}, api.Slot{Edge: 5})
	want(t, "no error", e, api.OK)
	thin, e := surface.Triangulate(octagon())
	want(t, "no error", e, api.OK)
	half, _ := field.Ratio(1, 2)
	tall := api.Vec{X: half, Y: field.Whole(3)}
	three, e := field.Root(3)
	want(t, "no error", e, api.OK)
	list := map[string]api.Surface{
		"the torus":            squareTorus(),
		"the L":                wideEll(),
		"two triangles":        triangles(),
		"the octagon":          octagon(),
		"the octagon cut":      cut,
		"the octagon in parts": thin,
		"two tori":             together(squareTorus(), triangles()),
		"three parts":          together(together(triangles(), wideEll()), squareTorus()),
		"a square's":           unfolding(t, field.Rational(), api.Vec{}, vec(1, 0), vec(1, 1), vec(0, 1)),
		"a triangle's":         unfolding(t, field.Rational(), api.Vec{}, vec(1, 0), vec(0, 1)),
		"a pentagon's":         unfolding(t, field.Rational(), api.Vec{}, vec(2, 0), vec(2, 1), vec(1, 2), vec(0, 2)),
		"an equal triangle's":  unfolding(t, three, api.Vec{}, vec(2, 0), api.Vec{X: field.Whole(1), Y: root(0, 1)}),
	}
	sheared, e := surface.Apply(wideEll(), api.Mat{A: field.Whole(1), B: tall.X, C: field.Whole(0), D: tall.Y})
	want(t, "no error", e, api.OK)
	list["the L sheared"] = sheared
	r := rand.New(rand.NewSource(51))
	for name, o := range map[string]api.Origami{"squares": ell(), "eight squares": quaternions(), "a grid": grid(3, 2), "many squares": long(20, 30), "parts": beside(ell(), grid(2, 1))} {
		list[name], _ = origami.Surface(o)
	}
	for _, name := range []string{"random", "random again", "random once more"} {
		list[name], _ = origami.Surface(random(r, 1+r.Intn(30)))
	}
	return list
}

// unfolding returns the surface to which a table unfolds.
func unfolding(t *testing.T, f api.Field, corners ...api.Vec) api.Surface {
	t.Helper()
	u, e := surface.Unfold(api.Table{Field: f, Corners: corners})
	want(t, "no error", e, api.OK)
	return u.Surface
}

// names returns the names of surfaces in order.
func names(list map[string]api.Surface) []string {
	var all []string
	for name := range list {
		all = append(all, name)
	}
	slices.Sort(all)
	return all
}

// edgesOf returns the least slots of all edges.
func edgesOf(s api.Surface) []api.Slot {
	var list []api.Slot
	for f, partners := range s.Glue {
		for e, to := range partners {
			if to.Face > f || to.Face == f && to.Edge > e {
				list = append(list, api.Slot{Face: f, Edge: e})
			}
		}
	}
	return list
}

// cornerOf returns the number of the vertex of a corner.
func cornerOf(vertices [][]api.Slot, at api.Slot) int {
	return slices.IndexFunc(vertices, func(corners []api.Slot) bool { return slices.Contains(corners, at) })
}

// cellsOf follows the definition.
func cellsOf(s api.Surface) (edges, faces [][]int) {
	vertices, _ := surface.Vertices(s)
	slots := edgesOf(s)
	for _, at := range slots {
		row := make([]int, len(vertices))
		row[cornerOf(vertices, api.Slot{Face: at.Face, Edge: (at.Edge + 1) % len(s.Faces[at.Face])})]++
		row[cornerOf(vertices, at)]--
		edges = append(edges, row)
	}
	for f, list := range s.Faces {
		row := make([]int, len(slots))
		for e := range list {
			if i := slices.Index(slots, api.Slot{Face: f, Edge: e}); i >= 0 {
				row[i]++
			}
			if i := slices.Index(slots, s.Glue[f][e]); i >= 0 {
				row[i]--
			}
		}
		faces = append(faces, row)
	}
	return edges, faces
}

// P8.6, example 5.
func TestSurfaceExample(t *testing.T) {
	s, _ := origami.Surface(torus())
	edges, faces, e := homology.Cells(s)
	wantLists(t, "the edges of the torus", edges, e, [][]int{{0}, {0}}, api.OK)
	wantLists(t, "its face", faces, e, [][]int{{0, 0}}, api.OK)
	b, e := homology.Betti(s)
	wantBoth(t, "Betti", b, e, [3]int{1, 2, 1}, api.OK)
	wantPeriods(t, "Periods", s, []int{7, -2}, vec(7, -2), api.OK)
}

// wantPeriods checks the sum of vectors.
func wantPeriods(t *testing.T, what string, s api.Surface, c []int, right api.Vec, f api.Errno) {
	t.Helper()
	v, e := homology.Periods(s, c)
	same := func(x, y api.Num) bool {
		return slices.EqualFunc(x.C, y.C, slices.Equal) && slices.Equal(x.D, y.D)
	}
	wantSame(t, what, func(a, b api.Vec) bool { return same(a.X, b.X) && same(a.Y, b.Y) }, v, e, right, f)
}

// P8.6: the cells are those of the definition, and boundaries have no boundary.
func TestCells(t *testing.T) {
	list := surfaces(t)
	for _, name := range names(list) {
		s := list[name]
		edges, faces, e := homology.Cells(s)
		rightEdges, rightFaces := cellsOf(s)
		wantLists(t, "the edges of "+name, edges, e, rightEdges, api.OK)
		wantLists(t, "the faces of "+name, faces, e, rightFaces, api.OK)
		for _, row := range product(faces, edges) {
			want(t, "no boundary", slices.ContainsFunc(row, func(x int) bool { return x != 0 }), false)
		}
	}
	edges, faces, e := homology.Cells(triangles())
	wantLists(t, "the edges of two triangles", edges, e, [][]int{{0}, {0}, {0}}, api.OK)
	wantLists(t, "their faces", faces, e, [][]int{{1, 1, 1}, {-1, -1, -1}}, api.OK)
	s, _ := origami.Surface(grid(2, 1))
	edges, faces, e = homology.Cells(s)
	// The edges: below the first square, upwards on its right side, downwards on its left side, and below the second one.
	wantLists(t, "the edges of two squares", edges, e, [][]int{{-1, 1}, {0, 0}, {0, 0}, {1, -1}}, api.OK)
	wantLists(t, "two squares", faces, e, [][]int{{0, 1, 1, 0}, {0, -1, -1, 0}}, api.OK)
}

// P8.6: the ranks of the homology are those of the boundaries.
func TestBetti(t *testing.T) {
	list := surfaces(t)
	for _, name := range names(list) {
		s := list[name]
		b, e := homology.Betti(s)
		edges, faces := cellsOf(s)
		vertexRank, _ := rankAndMinor(edges)
		faceRank, _ := rankAndMinor(faces)
		right := [3]int{len(edges[0]) - vertexRank, len(edges) - vertexRank - faceRank, len(faces) - faceRank}
		wantBoth(t, "Betti of "+name, b, e, right, api.OK)
		parts, _ := surface.Components(s)
		want(t, "the parts of "+name, b[0], slices.Max(parts)+1)
		want(t, "the parts twice", b[2], b[0])
		if genus, e := surface.Genus(s); e == api.OK {
			want(t, "the rank of "+name, b[1], 2*genus)
		}
	}
	for _, c := range []struct {
		s api.Surface
		b [3]int
	}{
		{wideEll(), [3]int{1, 4, 1}},
		{octagon(), [3]int{1, 4, 1}},
		{together(squareTorus(), together(wideEll(), triangles())), [3]int{3, 8, 3}},
	} {
		b, e := homology.Betti(c.s)
		wantBoth(t, "Betti", b, e, c.b, api.OK)
	}
	r := rand.New(rand.NewSource(52))
	for range 30 {
		o := random(r, 1+r.Intn(60))
		s, _ := origami.Surface(o)
		b, e := homology.Betti(s)
		rank, _ := homology.Rank(o)
		wantBoth(t, "the rank of squares", b[1], e, rank, api.OK)
	}
}

// P8.6: the sums of vectors.
func TestPeriods(t *testing.T) {
	r := rand.New(rand.NewSource(53))
	list := surfaces(t)
	for _, name := range names(list) {
		s := list[name]
		slots, c := edgesOf(s), []int(nil)
		for range slots {
			c = append(c, r.Intn(2000001)-1000000)
		}
		open, _ := field.Open(s.Field)
		x, y := field.Whole(0), field.Whole(0)
		for i, at := range slots {
			v := s.Faces[at.Face][at.Edge]
			x = open.Add(x, open.Mul(field.Whole(c[i]), v.X))
			y = open.Add(y, open.Mul(field.Whole(c[i]), v.Y))
		}
		wantPeriods(t, "Periods of "+name, s, c, api.Vec{X: x, Y: y}, api.OK)
		wantPeriods(t, "Periods of 0", s, make([]int, len(c)), vec(0, 0), api.OK)
		_, faces, _ := homology.Cells(s)
		for _, row := range faces {
			wantPeriods(t, "Periods of a face of "+name, s, row, vec(0, 0), api.OK)
		}
	}
	// The sides of the octagon, and numbers that are not in normal form.
	wantPeriods(t, "the octagon", octagon(), []int{1, 2, 3, 4}, api.Vec{X: api.Num{C: []api.Int{{-2}, {1}}, D: []int{1}}, Y: api.Num{C: []api.Int{{6}, {3}}, D: []int{1}}}, api.OK)
	odd := squareTorus()
	odd.Faces[0][0] = api.Vec{X: api.Num{C: []api.Int{{-7, 0, 0}, {}}, D: []int{-7}}, Y: api.Num{D: []int{5}}}
	wantPeriods(t, "numbers in other forms", odd, []int{3, -api.MaxChain}, vec(3, -1000000), api.OK)
}

// P8.6: chains of squares have the holonomy as their periods.
func TestPeriodsAndHolonomy(t *testing.T) {
	r := rand.New(rand.NewSource(54))
	for range 20 {
		o := random(r, 1+r.Intn(20))
		s, _ := origami.Surface(o)
		n := len(o.Right)
		c := randomChain(r, o, api.MaxChain)
		// Edge 0 of a square is its bottom edge, edge 3 its left edge, which runs downwards.
		of := map[api.Slot]int{}
		for i := range n {
			of[api.Slot{Face: i, Edge: 0}], of[s.Glue[i][0]] = c[i], -c[i]
			of[api.Slot{Face: i, Edge: 3}], of[s.Glue[i][3]] = -c[n+i], c[n+i]
		}
		var numbers []int
		for _, at := range edgesOf(s) {
			numbers = append(numbers, of[at])
		}
		x, y, _ := homology.Holonomy(o, c)
		wantPeriods(t, "Periods of squares", s, numbers, vec(x, y), api.OK)
	}
}

// P8.6: the errors: those of surfaces first.
func TestSurfaceErrors(t *testing.T) {
	for what, c := range map[string]struct {
		change func(s *api.Surface)
		e      api.Errno
	}{
		"nothing in it":       {func(s *api.Surface) { *s = api.Surface{Field: s.Field} }, api.ErrShape},
		"no field":            {func(s *api.Surface) { s.Field = api.Field{} }, api.ErrShape},
		"another gluing":      {func(s *api.Surface) { s.Glue[0][1].Edge = 7 }, api.ErrMissing},
		"wrong partners":      {func(s *api.Surface) { s.Glue[0][0], s.Glue[0][1] = s.Glue[0][1], s.Glue[0][0] }, api.ErrGlue},
		"an edge that is 0":   {func(s *api.Surface) { s.Faces[0][0] = vec(0, 0) }, api.ErrForm},
		"too few gluings":     {func(s *api.Surface) { s.Glue = nil }, api.ErrShape},
		"too many faces":      {func(s *api.Surface) { s.Faces = make([][]api.Vec, 501) }, api.ErrLarge},
		"an edge that is not": {func(s *api.Surface) { s.Faces[0] = s.Faces[0][:3] }, api.ErrShape},
	} {
		s := squareTorus()
		c.change(&s)
		want(t, "the error of Check", surface.Check(s), c.e)
		edges, faces, e := homology.Cells(s)
		want(t, "Cells of a surface with "+what, e, c.e)
		want(t, "nothing beside the error", len(edges)+len(faces), 0)
		b, e := homology.Betti(s)
		wantBoth(t, "Betti of a surface with "+what, b, e, [3]int{}, c.e)
		wantPeriods(t, "Periods of a surface with "+what, s, []int{most}, api.Vec{}, c.e)
	}
	for _, c := range []struct {
		c []int
		e api.Errno
	}{
		{nil, api.ErrShape},
		{[]int{1}, api.ErrShape},
		{[]int{1, 2, 3}, api.ErrShape},
		{[]int{most}, api.ErrShape},
		{[]int{0, 1000001}, api.ErrRange},
		{[]int{-1000001, 0}, api.ErrRange},
		{[]int{-most - 1, most}, api.ErrRange},
	} {
		wantPeriods(t, "Periods with an error", squareTorus(), c.c, api.Vec{}, c.e)
	}
	wantPeriods(t, "Periods at the limit", squareTorus(), []int{1000000, -1000000}, vec(1000000, -1000000), api.OK)
}
