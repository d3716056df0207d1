package origami_test

import (
	"fmt"
	"math/rand"
	"slices"
	"testing"

	"flatland/api"
	"flatland/cylinder"
	"flatland/origami"
)

// P6.5: the cylinders of the examples.
func TestExampleBands(t *testing.T) {
	for _, c := range []struct {
		o    api.Origami
		open []api.Band
	}{
		{ell(), []api.Band{{Width: 2, Height: 1, Rows: [][]int{{0, 1}}}, {Width: 1, Height: 1, Rows: [][]int{{2}}}}},
		{torus(), []api.Band{{Width: 1, Height: 1, Rows: [][]int{{0}}}}},
		{twoWide(), []api.Band{{Width: 2, Height: 1, Rows: [][]int{{0, 1}}}}},
		{grid(2, 1, 3), []api.Band{{Width: 2, Height: 3, Rows: [][]int{{0, 1}, {2, 3}, {4, 5}}}}},
		// A torus whose rows are upside down: the band begins with square 0.
		{squares([]int{0, 1, 2}, []int{2, 0, 1}), []api.Band{{Width: 1, Height: 3, Rows: [][]int{{0}, {2}, {1}}}}},
		// The second row begins above square 1, not with its least square.
		{squares([]int{3, 2, 1, 0}, []int{2, 3, 0, 1}), []api.Band{{Width: 2, Height: 2, Rows: [][]int{{0, 3}, {2, 1}}}}},
		// A part without ends beside the L, whose least square comes between.
		{squares([]int{2, 1, 0, 3}, []int{3, 1, 2, 0}), []api.Band{{Width: 2, Height: 1, Rows: [][]int{{0, 2}}}, {Width: 1, Height: 1, Rows: [][]int{{1}}}, {Width: 1, Height: 1, Rows: [][]int{{3}}}}},
		// The L, whose squares are two high, renumbered so that a band has its least square in the upper row.
		{renumbered(divided(ell(), 1, 2), []int{5, 3, 4, 2, 1, 0}), []api.Band{{Width: 1, Height: 2, Rows: [][]int{{1}, {0}}}, {Width: 2, Height: 2, Rows: [][]int{{4, 5}, {2, 3}}}}},
	} {
		l, e := origami.Cylinders(c.o, false)
		wantSame(t, fmt.Sprint("Cylinders of ", c.o), sameBands, l, e, c.open, api.OK)
		var rows []api.Band
		p, _ := origami.Cycles(c.o.Right)
		for _, row := range p {
			rows = append(rows, api.Band{Width: len(row), Height: 1, Rows: [][]int{row}})
		}
		l, e = origami.Cylinders(c.o, true)
		wantSame(t, fmt.Sprint("marked Cylinders of ", c.o), sameBands, l, e, rows, api.OK)
	}
}

// P6.5, P6.10: cylinders against squares that are joined across lines, and all squares are there once.
func TestBands(t *testing.T) {
	high := 0
	for _, o := range some(13) {
		for _, marked := range []bool{false, true} {
			l, e := origami.Cylinders(o, marked)
			wantSame(t, fmt.Sprint("Cylinders of ", o, marked), sameBands, l, e, bandsOf(o, marked), api.OK)
			var all []int
			for _, b := range l {
				want(t, "a width", b.Width, len(b.Rows[0]))
				want(t, "a height", b.Height, len(b.Rows))
				high += b.Height / 2
				for i, row := range b.Rows {
					all = append(all, row...)
					for k, x := range row {
						want(t, "rows go to the right", o.Right[x], row[(k+1)%b.Width])
						want(t, "each row lies above the one before", i == 0 || o.Up[b.Rows[i-1][k]] == x, true)
					}
				}
			}
			slices.Sort(all)
			wantList(t, "all squares", all, e, identity(len(o.Right)), api.OK)
		}
	}
	want(t, "some bands are high", high > 50, true)
}

// P6.5: squares that are divided have as many bands and saddles, wider, higher and longer ones.
func TestDivided(t *testing.T) {
	r := rand.New(rand.NewSource(14))
	for range 100 {
		o := squares(r.Perm(6), r.Perm(6))
		w, h := 1+r.Intn(3), 1+r.Intn(3)
		x := divided(o, w, h)
		before, e := origami.Cylinders(o, false)
		after, f := origami.Cylinders(x, false)
		var a, b [][]int
		for i, c := range before {
			a, b = append(a, []int{c.Width * w, c.Height * h, c.Rows[0][0] * w * h}), append(b, []int{after[i].Width, after[i].Height, after[i].Rows[0][0]})
		}
		wantLists(t, "Cylinders", b, f, a, e)
		want(t, "the number of bands", len(before), len(after))
		short, e := origami.Saddles(o)
		long, f := origami.Saddles(x)
		want(t, "Saddles", e == api.OK && f == api.OK && len(short) == len(long), true)
		p, q := vertexNumbers(o), vertexNumbers(x)
		for i, s := range short {
			s.Square *= w * h
			s.Length *= w
			s.From, s.To = q[slices.Index(p, s.From)*w*h], q[slices.Index(p, s.To)*w*h]
			want(t, "a saddle", long[i], s)
		}
	}
}

// P6.5: saddles against the definitions; their lengths are those of all lines with vertices of positive order.
func TestSaddles(t *testing.T) {
	l, e := origami.Saddles(ell())
	wantList(t, "Saddles of the L", l, e, []api.Saddle{{Square: 0, Length: 1, Above: 1}, {Square: 1, Length: 1, Above: 0, Below: 2}, {Square: 2, Length: 1, Above: 2, Below: 1}}, api.OK)
	for _, o := range []api.Origami{torus(), twoWide(), grid(6, 5, 10), squares(identity(60), identity(60))} {
		l, e := origami.Saddles(o)
		wantList(t, "Saddles of tori", l, e, nil, api.OK)
	}
	long := 0
	for _, o := range some(15) {
		l, e := origami.Saddles(o)
		wantList(t, fmt.Sprint("Saddles of ", o), l, e, saddlesOf(o), api.OK)
		sum, right := 0, 0
		for _, s := range l {
			sum += s.Length
			long += s.Length / 2
		}
		ends := heavy(o)
		rows, _ := origami.Cycles(o.Right)
		for _, row := range rows {
			if slices.ContainsFunc(row, func(x int) bool { return ends[x] }) {
				right += len(row)
			}
		}
		want(t, "the lengths of all saddles", sum, right)
		// Above and Below are permutations of the saddles.
		var above, below []int
		for _, s := range l {
			above, below = append(above, s.Above), append(below, s.Below)
		}
		wantList(t, "Above", sorted(above), e, identity(len(l)), api.OK)
		wantList(t, "Below", sorted(below), e, identity(len(l)), api.OK)
	}
	want(t, "some saddles are long", long > 50, true)
}

// P6.5: if no vertex has the order 0, saddles are the rays of package cylinder, and what follows them are its left and right successors.
func TestSaddlesAreRays(t *testing.T) {
	right := whole(1, 0)
	tried := 0
	for _, o := range some(16) {
		if slices.Contains(heavy(o), false) {
			continue
		}
		tried++
		s := mustSurface(t, o)
		rays, e := cylinder.Traces(s, right, right.X)
		want(t, "Traces", e, api.OK)
		left, e := cylinder.Left(s, right, rays)
		want(t, "Left", e, api.OK)
		below, e := cylinder.Right(s, right, rays)
		want(t, "Right", e, api.OK)
		vertex := vertexNumbers(o)
		var list []api.Saddle
		for x, ray := range rays {
			want(t, "a ray begins at each square", ray.From, api.Slot{Face: x})
			list = append(list, api.Saddle{Square: x, Length: 1, From: vertex[x], To: vertex[o.Right[x]], Above: left[x], Below: below[x]})
		}
		l, e := origami.Saddles(o)
		wantList(t, fmt.Sprint("Saddles of ", o), l, e, list, api.OK)
	}
	want(t, "some have no vertex of order 0", tried > 10, true)
}
