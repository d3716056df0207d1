package exchange_test

import (
	"fmt"
	"math"
	"math/big"
	"math/rand"
	"slices"
	"testing"

	"flatland/api"
	"flatland/exchange"
	"flatland/field"
	"flatland/surface"
)

// P5.6: example 4, and the class of the three rows written out.
func TestClassExamples(t *testing.T) {
	d, e := exchange.Class(rows(t, "0 1 2 / 2 1 0"))
	three := api.Diagram{Rows: []api.Rows{rows(t, "0 1 2 / 2 1 0"), rows(t, "0 1 2 / 2 0 1"), rows(t, "0 1 2 / 1 2 0")}, Next: [][2]int{{1, 2}, {0, 1}, {2, 0}}}
	wantSame(t, "Class of three letters", sameDiagram, d, e, three, api.OK)
	d, e = exchange.Class(rows(t, "2 0 1 / 1 0 2"))
	wantSame(t, "Class of three letters that are not renumbered", sameDiagram, d, e, three, api.OK)
	d, e = exchange.Class(rows(t, "1 0 / 0 1"))
	wantSame(t, "Class of two letters", sameDiagram, d, e, api.Diagram{Rows: []api.Rows{rows(t, "0 1 / 1 0")}, Next: [][2]int{{0, 0}}}, api.OK)
	for _, c := range []struct {
		text   string
		size   int
		orders []int
	}{
		{"0 1 2 3 / 3 2 1 0", 7, []int{2}},
		{"0 1 2 / 2 1 0", 3, []int{0, 0}},
		{"0 1 / 1 0", 1, []int{0}},
		{"0 1 2 3 / 1 2 3 0", 6, []int{0, 0, 0}},
		{"0 1 2 3 4 / 4 3 2 1 0", 15, []int{1, 1}},
		{"0 1 2 3 4 / 1 3 2 4 0", 11, []int{2, 0}},
		{"0 1 2 3 4 / 1 2 4 0 3", 35, []int{2, 0}},
		{"0 1 2 3 4 5 / 5 4 3 2 1 0", 31, []int{4}},
		{"0 1 2 3 4 5 / 1 3 2 5 0 4", 134, []int{4}},
		{"0 1 2 3 4 5 6 / 6 5 4 3 2 1 0", 63, []int{2, 2}},
		{"0 1 2 3 4 5 6 7 / 7 6 5 4 3 2 1 0", 127, []int{6}},
		{"0 1 2 3 4 5 6 7 / 1 2 3 6 5 4 7 0", 560, []int{1, 1, 0, 0, 0}},
	} {
		d, e := exchange.Class(rows(t, c.text))
		wantList(t, "the size of the class of "+c.text, []int{len(d.Rows), len(d.Next)}, e, []int{c.size, c.size}, api.OK)
		l, e := exchange.Orders(rows(t, c.text))
		wantList(t, "Orders of "+c.text, l, e, c.orders, api.OK)
	}
}

// P5.6: classes with more than 600 rows, of which there are some with 7 and many with 8 letters.
func TestLargeClasses(t *testing.T) {
	for _, s := range []string{"0 1 2 3 4 5 6 7 / 1 2 3 4 6 5 7 0", "0 1 2 3 4 5 6 / 1 2 4 3 6 0 5", "0 1 2 3 4 5 6 7 / 1 3 0 5 4 7 2 6", "7 6 5 4 3 2 1 0 / 6 4 7 2 3 0 5 1"} {
		if n := len(class(rows(t, s)).Rows); n <= api.MaxClass {
			t.Fatalf("the class of %s has only %d rows", s, n)
		}
		d, e := exchange.Class(rows(t, s))
		wantSame(t, "Class of "+s, sameDiagram, d, e, api.Diagram{}, api.ErrLarge)
	}
}

// P5.6, P5.10: the classes against the definitions; each kind is a permutation of the class, whose rows are irreducible and have the same orders; and the classes are all irreducible rows, each one once.
func TestClass(t *testing.T) {
	for n := 2; n <= 5; n++ {
		sizes := map[string]int{}
		for _, r := range irreducible(n) {
			d, e := exchange.Class(r)
			wantSame(t, "Class", sameDiagram, d, e, class(r), api.OK)
			var names []string
			for _, x := range d.Rows {
				want(t, "a row is reducible", isReducible(x), false)
				names = append(names, fmt.Sprint(x))
			}
			slices.Sort(names)
			want(t, "each one is there once", len(slices.Compact(names)), len(d.Rows))
			sizes[names[0]] = len(names)
			for kind := range 2 {
				var to []int
				for _, next := range d.Next {
					to = append(to, next[kind])
				}
				slices.Sort(to)
				wantList(t, "the images of a kind", to, api.OK, identity(len(d.Rows)), api.OK)
			}
		}
		sum := 0
		for _, size := range sizes {
			sum += size
		}
		want(t, "rows in classes", sum, len(irreducible(n)))
	}
	r := rand.New(rand.NewSource(11))
	for range 12 {
		x := randomRows(r, 6+r.Intn(3), false)
		right, f := class(x), api.OK
		if len(right.Rows) > api.MaxClass {
			right, f = api.Diagram{}, api.ErrLarge
		}
		d, e := exchange.Class(x)
		wantSame(t, "Class", sameDiagram, d, e, right, f)
		first, e := exchange.Orders(x)
		want(t, "Orders", e, api.OK)
		for i := 0; i < len(d.Rows); i += 37 {
			l, e := exchange.Orders(d.Rows[i])
			wantList(t, "Orders in a class", l, e, first, api.OK)
		}
	}
}

// orders returns the orders of the vertices of the suspension, by going around them and adding the angles.
func orders(r api.Rows) []int {
	n := len(r.Top)
	edges := make([][2]float64, 2*n)
	partner := make([]int, 2*n)
	for i, c := range r.Bottom {
		j := slices.Index(r.Top, c)
		edges[i] = [2]float64{1, float64(i - j)}
		edges[2*n-1-j] = [2]float64{-1, float64(j - i)}
		partner[i], partner[2*n-1-j] = 2*n-1-j, i
	}
	var list []int
	done := make([]bool, 2*n)
	for first := range edges {
		sum := 0.0
		for c := first; !done[c]; c = partner[(c+2*n-1)%(2*n)] {
			done[c] = true
			u, v := edges[c], edges[(c+2*n-1)%(2*n)]
			angle := math.Atan2(-v[1], -v[0]) - math.Atan2(u[1], u[0])
			if angle <= 1e-9 {
				angle += 2 * math.Pi
			}
			sum += angle / (2 * math.Pi)
		}
		if sum > 0 {
			list = append(list, int(math.Round(sum))-1)
		}
	}
	slices.Sort(list)
	slices.Reverse(list)
	return list
}

// P5.6: orders against the angles of the suspension. P5.10: their sum is 2 g - 2; with their number it says how many letters there are.
func TestOrders(t *testing.T) {
	r := rand.New(rand.NewSource(12))
	var all []api.Rows
	for n := 2; n <= 5; n++ {
		all = append(all, irreducible(n)...)
	}
	for range 60 {
		all = append(all, randomRows(r, 2+r.Intn(7), false))
	}
	for _, x := range all {
		l, e := exchange.Orders(x)
		wantList(t, "Orders", l, e, orders(x), api.OK)
		sum := 0
		for _, order := range l {
			sum += order
		}
		want(t, "the sum of the orders is odd", sum%2, 0)
		want(t, "letters", sum+1+len(l), len(x.Top))
	}
}

// P5.8: example 5.
func TestSuspendExample(t *testing.T) {
	s, e := exchange.Suspend(over(t, "0 1 / 1 0", 3, 2))
	right := api.Surface{Field: field.Rational(), Faces: [][]api.Vec{{vec(2, -1), vec(3, 1), vec(-2, 1), vec(-3, -1)}}, Glue: [][]api.Slot{{{Edge: 2}, {Edge: 3}, {Edge: 0}, {Edge: 1}}}}
	wantSame(t, "Suspend", sameSurface, s, e, right, api.OK)
	area, e := surface.Area(s)
	wantSame(t, "its area", sameNum, area, e, field.Whole(5), api.OK)
}

// vec returns a vector of whole numbers.
func vec(x, y int) api.Vec { return api.Vec{X: field.Whole(x), Y: field.Whole(y)} }

// P5.8, P5.10: suspensions against the definitions: their edges, their area, their orders; and read off they give the exchange back.
func TestSuspend(t *testing.T) {
	r := rand.New(rand.NewSource(13))
	for i := range 150 {
		m := randomModel(r, 2+r.Intn(7), i%4, false)
		x := m.exchange()
		s, e := exchange.Suspend(untidyExchange(r, x))
		n := len(m.top)
		right := api.Surface{Field: x.Field, Faces: [][]api.Vec{nil}, Glue: [][]api.Slot{nil}}
		height := func(c int) int { return slices.Index(m.bottom, c) - slices.Index(m.top, c) }
		for _, c := range m.bottom {
			right.Faces[0] = append(right.Faces[0], api.Vec{X: m.lengths[c].num(), Y: field.Whole(height(c))})
			right.Glue[0] = append(right.Glue[0], api.Slot{Edge: 2*n - 1 - slices.Index(m.top, c)})
		}
		for _, c := range slices.Backward(m.top) {
			right.Faces[0] = append(right.Faces[0], api.Vec{X: m.multiple(-1, m.lengths[c]).num(), Y: field.Whole(-height(c))})
			right.Glue[0] = append(right.Glue[0], api.Slot{Edge: slices.Index(m.bottom, c)})
		}
		wantSame(t, "Suspend", sameSurface, s, e, right, api.OK)
		want(t, "Check of the suspension", surface.Check(s), api.OK)
		area, e := surface.Area(s)
		wantSame(t, "its area", sameNum, area, e, m.area(height).num(), api.OK)
		l, e := surface.Stratum(s)
		o, f := exchange.Orders(rowsOf(x))
		wantList(t, "Orders", o, f, l, e)
		y, e := exchange.Normal(x)
		want(t, "Normal", e, api.OK)
		z, e := exchange.Read(s)
		wantSame(t, "Read of the suspension", sameExchange, z, e, y, api.OK)
		checkFlow(t, r, m, s)
	}
}

// area returns the area between the line of Top and that of Bottom.
func (m model) area(height func(c int) int) surd {
	sum := whole(0)
	for k, row := range [][]int{m.top, m.bottom} {
		at := 0
		for _, c := range row {
			sum = sum.plus(m.lengths[c].times(big.NewRat(int64((2*at+height(c))*(1-2*k)), 2)))
			at += height(c)
		}
	}
	return sum
}

// checkFlow checks that the exchange is the first return of the suspension: straight up from a place below, the line leaves the face where the exchange takes its point.
func checkFlow(t *testing.T, r *rand.Rand, m model, s api.Surface) {
	t.Helper()
	real := open(t, s.Field)
	for range 4 {
		i := r.Intn(len(m.bottom))
		part := big.NewRat(int64(1+r.Intn(59)), 60)
		p := m.before(m.bottom, m.bottom[i]).plus(m.lengths[m.bottom[i]].times(part))
		inside, c := m.apply(p)
		inside = inside.minus(m.before(m.bottom, c))
		next, e := surface.Next(s, api.Crossing{At: api.Slot{Edge: i}, T: surd{part, new(big.Rat)}.num(), Dir: vec(0, 1)})
		if inside.sign() == 0 {
			want(t, "the line to a corner", e, api.ErrCorner)
			continue
		}
		want(t, "the line up", e, api.OK)
		want(t, "the edge where it comes in again", next.At, api.Slot{Edge: slices.Index(m.bottom, c)})
		want(t, "the place", sameNum(real.Mul(next.T, m.lengths[c].num()), inside.num()), true)
	}
}

// P5.8: surfaces that are no suspension by their heights, but are read; and those that are not read.
func TestRead(t *testing.T) {
	// The heights may be others than those of suspensions.
	flat := api.Surface{Field: field.Rational(), Faces: [][]api.Vec{{vec(2, -5), vec(1, 0), vec(2, 1), vec(-1, 0), vec(-2, 5), vec(-2, -1)}}, Glue: [][]api.Slot{{{Edge: 4}, {Edge: 3}, {Edge: 5}, {Edge: 1}, {Edge: 0}, {Edge: 2}}}}
	x, e := exchange.Read(flat)
	wantSame(t, "Read", sameExchange, x, e, over(t, "0 1 2 / 1 2 0", 2, 2, 1), api.OK)
	square := []api.Vec{vec(1, 0), vec(0, 1), vec(-1, 0), vec(0, -1)}
	torus := []api.Slot{{Edge: 2}, {Edge: 3}, {Edge: 0}, {Edge: 1}}
	two := [][]api.Slot{{{Face: 1, Edge: 2}, {Edge: 3}, {Face: 1, Edge: 0}, {Edge: 1}}, {{Edge: 2}, {Face: 1, Edge: 3}, {Edge: 0}, {Face: 1, Edge: 1}}}
	for _, c := range []struct {
		what string
		s    api.Surface
		e    api.Errno
	}{
		{"no surface", api.Surface{}, api.ErrShape},
		{"no field", api.Surface{Field: api.Field{Poly: []int{0, 0, 1}, Den: 1}}, api.ErrForm},
		{"a surface that is not glued", api.Surface{Field: field.Rational(), Faces: [][]api.Vec{square}, Glue: [][]api.Slot{make([]api.Slot, 4)}}, api.ErrGlue},
		{"a partner that is not there", api.Surface{Field: field.Rational(), Faces: [][]api.Vec{square}, Glue: [][]api.Slot{{{Edge: 4}, {Edge: 3}, {Edge: 0}, {Edge: 1}}}}, api.ErrMissing},
		{"two faces", api.Surface{Field: field.Rational(), Faces: [][]api.Vec{square, square}, Glue: two}, api.ErrShape},
		{"the square, whose edge 1 has the X 0", api.Surface{Field: field.Rational(), Faces: [][]api.Vec{square}, Glue: [][]api.Slot{torus}}, api.ErrForm},
		{"a face from its upper corner on", api.Surface{Field: field.Rational(), Faces: [][]api.Vec{{vec(-2, 1), vec(-3, -1), vec(2, -1), vec(3, 1)}}, Glue: [][]api.Slot{torus}}, api.ErrForm},
		{"a face from its lower corner on", api.Surface{Field: field.Rational(), Faces: [][]api.Vec{{vec(3, 1), vec(-2, 1), vec(-3, -1), vec(2, -1)}}, Glue: [][]api.Slot{torus}}, api.ErrForm},
		{"the L, whose edge 1 is glued to edge 3", ell(), api.ErrForm},
		{"eighteen edges", wide(9), api.ErrShape},
		{"twenty-four edges", wide(12), api.ErrShape},
	} {
		x, e := exchange.Read(c.s)
		wantSame(t, "Read of "+c.what, sameExchange, x, e, api.Exchange{}, c.e)
	}
	x, e = exchange.Read(wide(8))
	want(t, "Read of sixteen edges", e, api.OK)
	wantList(t, "its Bottom", x.Bottom, e, []int{7, 6, 5, 4, 3, 2, 1, 0}, api.OK)
}

// ell is the L of three squares, as one face.
func ell() api.Surface {
	s := api.Surface{Field: field.Rational(), Faces: [][]api.Vec{{vec(1, 0), vec(1, 0), vec(0, 1), vec(-1, 0), vec(0, 1), vec(-1, 0), vec(0, -1), vec(0, -1)}}, Glue: [][]api.Slot{nil}}
	for _, e := range []int{5, 3, 7, 1, 6, 0, 4, 2} {
		s.Glue[0] = append(s.Glue[0], api.Slot{Edge: e})
	}
	return s
}

// wide is a convex face with n edges below and the same ones above, from the right to the left.
func wide(n int) api.Surface {
	s := api.Surface{Field: field.Rational(), Faces: [][]api.Vec{nil}, Glue: [][]api.Slot{nil}}
	for i := range 2 * n {
		v := vec(1, i)
		if i >= n {
			v = vec(-1, n-i)
		}
		s.Faces[0] = append(s.Faces[0], v)
		s.Glue[0] = append(s.Glue[0], api.Slot{Edge: (i + n) % (2 * n)})
	}
	return s
}
