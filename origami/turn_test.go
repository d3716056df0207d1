package origami_test

import (
	"fmt"
	"math/rand"
	"slices"
	"strings"
	"testing"

	"flatland/api"
	"flatland/field"
	"flatland/origami"
	"flatland/surface"
)

// floorOf returns p divided by q, rounded down.
func floorOf(p, q int) int {
	k := 0
	for q > 0 && k*q > p || q < 0 && k*q < p {
		k--
	}
	for q > 0 && (k+1)*q <= p || q < 0 && (k+1)*q >= p {
		k++
	}
	return k
}

// toward follows the definition with steps from square to square, and returns the matrix that was applied besides.
func toward(o api.Origami, p, q int) (api.Origami, [4]int) {
	m := [4]int{1, 0, 0, 1}
	for q != 0 {
		k := floorOf(p, q)
		step := "r"
		if k < 0 {
			step = "l"
		}
		o = squares(o.Right, walked(o, "u"+strings.Repeat(step, max(k, -k))))
		m = times([4]int{1, -k, 0, 1}, m)
		p -= k * q
		o = squares(walked(o, "u"), walked(o, "l"))
		m = times([4]int{0, 1, -1, 0}, m)
		p, q = q, -p
	}
	if p == -1 {
		o = squares(walked(o, "l"), walked(o, "d"))
		m = times([4]int{-1, 0, 0, -1}, m)
	}
	return o, m
}

// times returns the product of two matrices.
func times(a, b [4]int) [4]int {
	return [4]int{a[0]*b[0] + a[1]*b[2], a[0]*b[1] + a[1]*b[3], a[2]*b[0] + a[3]*b[2], a[2]*b[1] + a[3]*b[3]}
}

// walked returns where steps lead from each square.
func walked(o api.Origami, steps string) []int {
	var l []int
	for x := range o.Right {
		l = append(l, walk(o, x, steps))
	}
	return l
}

// P6.6: directions of the examples, and those that need no step.
func TestExampleToward(t *testing.T) {
	l := ell()
	for _, c := range []struct {
		p, q int
		o    api.Origami
	}{
		{0, 1, squares([]int{2, 1, 0}, []int{1, 0, 2})},
		{1, 1, squares([]int{2, 0, 1}, []int{1, 0, 2})},
		{1, 0, l},
		{-1, 0, squares([]int{1, 0, 2}, []int{2, 1, 0})},
		{1000, 1, squares([]int{2, 1, 0}, []int{1, 0, 2})}, // as (0, 1): twice to the right is no step for squares 0, 1
		{999, 1, squares([]int{2, 0, 1}, []int{1, 0, 2})},
	} {
		x, e := origami.Toward(l, c.p, c.q)
		wantOrigami(t, fmt.Sprint("Toward ", c.p, c.q), x, e, c.o, api.OK)
	}
	o := squares([]int{1, 2, 0, 3}, []int{3, 1, 0, 2})
	x, e := origami.Toward(o, 1, 0)
	wantOrigami(t, "Toward the right", x, e, o, api.OK)
	x, e = origami.Toward(o, -1, 0)
	wantOrigami(t, "Toward the left", x, e, turnedBy180(o), api.OK)
	x, e = origami.Toward(o, 0, -1)
	wantOrigami(t, "Toward below", x, e, squares(turnedBy180(o).Up, o.Right), api.OK)
	x, e = origami.Toward(squares([]int{0, 1}, []int{1, 0}), 0, 1)
	wantOrigami(t, "Toward of no connected one", x, e, squares([]int{1, 0}, []int{0, 1}), api.OK)
}

// P6.6, P6.10: directions against steps and against the surface to which the matrix is applied; the stratum stays.
func TestToward(t *testing.T) {
	r := rand.New(rand.NewSource(17))
	list := []api.Origami{ell(), torus(), twoWide()}
	for range 40 {
		list = append(list, randomConnected(r, 1+r.Intn(9)))
	}
	compared := 0
	for _, o := range list {
		if len(o.Right) > 12 {
			continue
		}
		stratum, _ := origami.Stratum(o)
		for p := -6; p <= 6; p++ {
			for q := -6; q <= 6; q++ {
				if p != 0 && q != 0 && field.Cmp(field.Gcd(field.Of(p), field.Of(q)), field.Of(1)) != 0 || p == 0 && q*q != 1 || q == 0 && p*p != 1 {
					continue
				}
				right, m := toward(o, p, q)
				want(t, "the direction goes to the right", [2]int{m[0]*p + m[1]*q, m[2]*p + m[3]*q}, [2]int{1, 0})
				x, e := origami.Toward(o, p, q)
				wantOrigami(t, fmt.Sprint("Toward ", p, q, " of ", o), x, e, right, api.OK)
				l, e := origami.Stratum(x)
				wantList(t, "Stratum", l, e, stratum, api.OK)
				if r.Intn(60) > 0 {
					continue
				}
				compared++
				s, e := surface.Apply(mustSurface(t, o), api.Mat{A: field.Whole(m[0]), B: field.Whole(m[1]), C: field.Whole(m[2]), D: field.Whole(m[3])})
				want(t, "Apply", e, api.OK)
				a, e := surface.Label(s)
				b, f := surface.Label(mustSurface(t, x))
				wantList(t, fmt.Sprint("the surface of Toward ", p, q, " of ", o), []string{b}, f, []string{a}, e)
			}
		}
	}
	want(t, "some are compared", compared > 20, true)
}

// P6.6: directions with large numbers, and those that are refused.
func TestTowardErrors(t *testing.T) {
	r := rand.New(rand.NewSource(18))
	o := randomConnected(r, 20)
	for _, c := range [][2]int{{1000, 999}, {999, -1000}, {-1000, 1}, {1, 1000}, {-1, -1000}, {-1000, 999}, {610, 987}, {-987, 610}, {2, -997}} {
		x, e := origami.Toward(o, c[0], c[1])
		right, _ := toward(o, c[0], c[1])
		wantOrigami(t, fmt.Sprint("Toward ", c), x, e, right, api.OK)
	}
	for _, c := range [][2]int{{0, 0}, {2, 0}, {0, -2}, {2, 2}, {6, -9}, {1000, 1000}, {-1000, 998}, {1001, 1}, {1, 1001}, {-1001, 1000}, {7, -1001}, {1001, 0}, {0, 1001}, {most, 1}, {1, -most - 1}, {-most - 1, -most - 1}, {most, most - 1}} {
		x, e := origami.Toward(o, c[0], c[1])
		wantOrigami(t, fmt.Sprint("Toward ", c), x, e, api.Origami{}, api.ErrRange)
	}
}

// P6.7: half turns against all lists of squares, and what they fix against corners and edges.
func TestHalfTurns(t *testing.T) {
	r := rand.New(rand.NewSource(19))
	list := connected(small(3))
	for range 80 {
		list = append(list, randomConnected(r, 4+r.Intn(2)))
	}
	found := map[int]int{}
	for _, o := range list {
		if len(o.Right) > 5 {
			continue
		}
		right := covers(o, turnedBy180(o))
		l, e := origami.HalfTurns(o)
		wantLists(t, fmt.Sprint("HalfTurns of ", o), l, e, right, api.OK)
		found[min(len(right), 2)]++
		for _, f := range right {
			a, b, c, e := origami.Fixed(o, f)
			wantFixed(t, o, f, [3]int{a, b, c}, e)
		}
		for _, f := range lists(min(4, len(o.Right)), min(4, len(o.Right))) {
			if len(f) == len(o.Right) && !slices.ContainsFunc(right, func(g []int) bool { return slices.Equal(f, g) }) {
				a, b, c, e := origami.Fixed(o, f)
				wantList(t, "Fixed of no half turn", []int{a, b, c}, e, make([]int, 3), api.ErrProof)
			}
		}
	}
	want(t, "some have none, one and more", found[0] > 0 && found[1] > 5 && found[2] > 5, true)
	l, e := origami.HalfTurns(ell())
	wantLists(t, "HalfTurns of the L", l, e, [][]int{{0, 1, 2}}, api.OK)
	a, b, c, e := origami.Fixed(ell(), []int{0, 1, 2})
	wantList(t, "Fixed of the L", []int{a, b, c}, e, []int{3, 2, 1}, api.OK)
	a, b, c, e = origami.Fixed(torus(), []int{0})
	wantList(t, "Fixed of a square", []int{a, b, c}, e, []int{1, 2, 1}, api.OK)
	a, b, c, e = origami.Fixed(twoWide(), []int{1, 0})
	wantList(t, "Fixed of two squares", []int{a, b, c}, e, []int{0, 2, 2}, api.OK)
}

// wantFixed checks what a half turn fixes.
func wantFixed(t *testing.T, o api.Origami, f []int, n [3]int, e api.Errno) {
	t.Helper()
	right := fixedPoints(o, f)
	wantList(t, fmt.Sprint("Fixed of ", o, f), n[:], e, right[:], api.OK)
}

// P6.7: half turns of large origamis, also of some with more than one component, whose half turns may exchange them.
func TestLargeHalfTurns(t *testing.T) {
	r := rand.New(rand.NewSource(20))
	some := 0
	for range 300 {
		o := randomConnected(r, 1+r.Intn(30))
		l, e := origami.HalfTurns(o)
		want(t, "HalfTurns", e, api.OK)
		some += len(l)
		for i, f := range l {
			want(t, "it is a half turn", isCover(o, turnedBy180(o), f), true)
			want(t, "they are ordered", i == 0 || f[0] > l[i-1][0], true)
			a, b, c, e := origami.Fixed(o, f)
			wantFixed(t, o, f, [3]int{a, b, c}, e)
		}
		if n := len(o.Right); len(l) > 0 && n <= 30 {
			f, g := slices.Clone(l[0]), make([]int, 2*n)
			for x, y := range f {
				f = append(f, y+n)
				g[x], g[x+n] = y+n, y
			}
			for _, h := range [][]int{f, g} {
				a, b, c, e := origami.Fixed(beside(o, o), h)
				wantFixed(t, beside(o, o), h, [3]int{a, b, c}, e)
			}
		}
	}
	want(t, "some have half turns", some > 100, true)
}

// P6.7: what is no half turn.
func TestFixedErrors(t *testing.T) {
	for _, c := range []struct {
		o api.Origami
		f []int
		e api.Errno
	}{
		{ell(), nil, api.ErrShape},
		{ell(), []int{0, 1}, api.ErrShape},
		{ell(), []int{7, 7, 7, 7}, api.ErrShape},
		{ell(), []int{0, 1, 3}, api.ErrRange},
		{ell(), []int{-1, 1, 1}, api.ErrRange},
		{ell(), []int{-most - 1, most, 0}, api.ErrRange},
		{ell(), []int{0, 0, 0}, api.ErrProof},
		{ell(), []int{1, 0, 2}, api.ErrProof},
		// The identity is an automorphism, and no half turn; without the last square it is neither.
		{squares([]int{1, 2, 0}, []int{1, 2, 0}), identity(3), api.ErrProof},
		{squares([]int{1, 2, 0}, identity(3)), identity(3), api.ErrProof},
		{squares(identity(3), []int{1, 2, 0}), identity(3), api.ErrProof},
		// All squares turn well, but go to one.
		{squares(identity(2), identity(2)), []int{0, 0}, api.ErrProof},
	} {
		x, y, z, e := origami.Fixed(c.o, c.f)
		wantList(t, fmt.Sprint("Fixed of ", c.o, c.f), []int{x, y, z}, e, make([]int, 3), c.e)
	}
}

// P6.10: a connected origami of genus 2 has a half turn that fixes six points.
func TestGenusTwo(t *testing.T) {
	r := rand.New(rand.NewSource(21))
	found := 0
	for found < 300 {
		o := randomConnected(r, 3+r.Intn(25))
		if g, _ := origami.Genus(o); g != 2 {
			continue
		}
		found++
		l, e := origami.HalfTurns(o)
		want(t, "HalfTurns", e, api.OK)
		want(t, fmt.Sprint("one of them fixes six points of ", o), slices.ContainsFunc(l, func(f []int) bool {
			a, b, c, e := origami.Fixed(o, f)
			return e == api.OK && a+b+c == 6
		}), true)
	}
}
