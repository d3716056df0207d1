package origami_test

import (
	"fmt"
	"math/rand"
	"slices"
	"testing"

	"flatland/api"
	"flatland/origami"
)

// P6.2: the label of the chapter's example.
func TestExampleLabel(t *testing.T) {
	label := squares([]int{0, 2, 1}, []int{1, 0, 2})
	x, f, e := origami.Label(ell())
	wantSame(t, "Label of the L", samePair, pair{x, f}, e, pair{label, []int{1, 2, 0}}, api.OK)
	x, f, e = origami.Label(label)
	wantSame(t, "Label of the label", samePair, pair{x, f}, e, pair{label, identity(3)}, api.OK)
	x, f, e = origami.Label(torus())
	wantSame(t, "Label of a square", samePair, pair{x, f}, e, pair{torus(), []int{0}}, api.OK)
	// All numberings make the same origami: the least square is taken.
	x, f, e = origami.Label(squares([]int{2, 0, 1}, identity(3)))
	wantSame(t, "Label of a row", samePair, pair{x, f}, e, pair{squares([]int{1, 2, 0}, identity(3)), []int{0, 2, 1}}, api.OK)
}

// P6.2: labels against all numberings, also of origamis with many automorphisms.
func TestLabel(t *testing.T) {
	r := rand.New(rand.NewSource(3))
	list := connected(small(4))
	for range 150 {
		o := randomConnected(r, 1+r.Intn(50))
		list = append(list, o)
		if k := 1 + r.Intn(6); k*len(o.Right) <= 60 {
			c, _ := randomCover(r, o, k)
			list = append(list, c)
		}
	}
	for range 30 {
		a, c := 1+r.Intn(8), 1+r.Intn(7)
		o := grid(a, r.Intn(a), c)
		list = append(list, o, renumbered(o, r.Perm(a*c)))
	}
	for _, o := range list {
		x, f, e := origami.Label(o)
		wantSame(t, "Label", samePair, pair{x, f}, e, leastNumbered(o), api.OK)
		wantOrigami(t, "what the numbering makes", renumbered(o, f), e, x, api.OK)
		y, _, e := origami.Label(renumbered(o, r.Perm(len(f))))
		wantOrigami(t, "Label of the renumbered one", y, e, x, api.OK)
		y, f, e = origami.Label(x)
		wantSame(t, "Label of the label", samePair, pair{y, f}, e, pair{x, identity(len(f))}, api.OK)
	}
}

// P6.2, P6.10: two origamis have the same label just if one of all renumberings takes the one to the other, that is, if the least one of all their renumberings is the same; and there are as many labels as subgroups of the free group of two generators up to conjugation.
func TestLabelsAndClasses(t *testing.T) {
	for n, count := range []int{1, 3, 7, 26, 97} {
		all := permutations(n + 1)
		labels, byLabel, byLeast := map[string]bool{}, map[string]string{}, map[string]string{}
		for i, o := range connected(allOrigamis(n + 1)) {
			x, _, e := origami.Label(o)
			want(t, "Label", e, api.OK)
			label := fmt.Sprint(x)
			labels[label] = true
			if n == 4 && i%7 != 0 {
				continue // only counted
			}
			least := squares(slices.Repeat([]int{n + 1}, n+1), nil)
			for _, f := range all {
				if y := renumbered(o, f); slices.Compare(slices.Concat(y.Right, y.Up), slices.Concat(least.Right, least.Up)) < 0 {
					least = y
				}
			}
			class := fmt.Sprint(least)
			if l, ok := byLeast[class]; ok && l != label {
				t.Errorf("%v: the labels %s and %s", o, l, label)
			}
			if c, ok := byLabel[label]; ok && c != class {
				t.Errorf("%s: the label of %s and %s", label, c, class)
			}
			byLabel[label], byLeast[class] = class, label
		}
		want(t, "labels", len(labels), count)
	}
}

// P6.2: isomorphisms and automorphisms against all lists of squares.
func TestIsomorphisms(t *testing.T) {
	r := rand.New(rand.NewSource(4))
	list := connected(small(3))
	for range 60 {
		list = append(list, randomConnected(r, 4+r.Intn(2)), grid(2, r.Intn(2), 2))
	}
	list = slices.DeleteFunc(list, func(o api.Origami) bool { return len(o.Right) > 5 })
	some := 0
	for i, a := range list {
		right := covers(a, a)
		l, e := origami.Automorphisms(a)
		wantLists(t, "Automorphisms", l, e, right, api.OK)
		some += len(right) - 1
		want(t, "the number of automorphisms divides that of squares", len(a.Right)%len(l), 0)
		for j, b := range []api.Origami{list[r.Intn(len(list))], renumbered(a, r.Perm(len(a.Right))), list[(i+1)%len(list)]} {
			e := api.ErrNone
			var f []int
			if l := covers(a, b); len(l) > 0 && len(a.Right) == len(b.Right) {
				f, e = l[0], api.OK
			}
			want(t, "a renumbered one is isomorphic", j == 1 && e != api.OK, false)
			g, h := origami.Isomorphism(a, b)
			wantList(t, fmt.Sprint("Isomorphism of ", a, b), g, h, f, e)
		}
	}
	want(t, "some have automorphisms", some > 50, true)
	l, e := origami.Automorphisms(twoWide())
	wantLists(t, "Automorphisms", l, e, [][]int{{0, 1}, {1, 0}}, api.OK)
	l, e = origami.Automorphisms(grid(60, 0, 1))
	want(t, "Automorphisms of a row of sixty squares", len(l), 60)
	wantList(t, "the second one", l[1], e, append(identity(60)[1:], 0), api.OK)
}

// P6.2: isomorphisms of large origamis.
func TestLargeIsomorphisms(t *testing.T) {
	r := rand.New(rand.NewSource(5))
	for range 100 {
		a := randomConnected(r, 1+r.Intn(60))
		if len(a.Right) > 60 {
			continue
		}
		p := r.Perm(len(a.Right))
		b := renumbered(a, p)
		f, e := origami.Isomorphism(a, b)
		want(t, "Isomorphism", e, api.OK)
		want(t, "it is an isomorphism", renumberedBy(a, f, b), true)
		want(t, "the least one", f[0] <= p[0], true)
		want(t, "CheckIsomorphism", origami.CheckIsomorphism(a, b, f), api.OK)
		want(t, "CheckIsomorphism of the renumbering", origami.CheckIsomorphism(a, b, p), api.OK)
		c := randomConnected(r, len(a.Right))
		if len(c.Right) <= 60 {
			x, _, _ := origami.Label(a)
			y, _, _ := origami.Label(c)
			_, e = origami.Isomorphism(a, c)
			want(t, "there is one just if the labels are the same", e == api.OK, sameOrigami(x, y))
		}
	}
}

// renumberedBy reports whether renumbering makes b of a.
func renumberedBy(a api.Origami, f []int, b api.Origami) bool {
	return sameOrigami(renumbered(a, f), b)
}

// P6.2: quotients against all automorphisms.
func TestQuotient(t *testing.T) {
	r := rand.New(rand.NewSource(6))
	list := connected(small(3))
	for range 100 {
		list = append(list, randomConnected(r, 4+r.Intn(2)), grid(2, r.Intn(2), 2))
	}
	for _, o := range list {
		if len(o.Right) > 5 {
			continue
		}
		all := covers(o, o)
		class := classes(len(o.Right), func(join func(a, b int)) {
			for _, f := range all {
				for x, y := range f {
					join(x, y)
				}
			}
		})
		q := squares(nil, nil)
		for _, group := range grouped(class) {
			q.Right, q.Up = append(q.Right, class[o.Right[group[0]]]), append(q.Up, class[o.Up[group[0]]])
		}
		x, l, e := origami.Quotient(o)
		wantSame(t, fmt.Sprint("Quotient of ", o), samePair, pair{x, l}, e, pair{q, class}, api.OK)
		want(t, "it is covered", isCover(o, x, l), true)
		want(t, "the squares of a class", len(x.Right)*len(all), len(o.Right))
	}
	x, l, e := origami.Quotient(twoWide())
	wantSame(t, "Quotient of two squares", samePair, pair{x, l}, e, pair{torus(), []int{0, 0}}, api.OK)
	x, l, e = origami.Quotient(ell())
	wantSame(t, "Quotient of the L", samePair, pair{x, l}, e, pair{ell(), identity(3)}, api.OK)
	x, l, e = origami.Quotient(renumbered(grid(6, 5, 10), r.Perm(60)))
	wantSame(t, "Quotient of a torus", samePair, pair{x, l}, e, pair{torus(), make([]int, 60)}, api.OK)
	// Two squares in a class, the least one of which is not the first one of its row.
	o := squares([]int{2, 3, 0, 1}, []int{3, 0, 1, 2})
	x, l, e = origami.Quotient(o)
	wantSame(t, "Quotient of four squares", samePair, pair{x, l}, e, pair{torus(), make([]int, 4)}, api.OK)
	// The squares of the quaternions, which are eight, and all of the same kind.
	q := squares([]int{1, 2, 3, 0, 5, 6, 7, 4}, []int{4, 7, 6, 5, 2, 1, 0, 3})
	a, e := origami.Automorphisms(q)
	want(t, "automorphisms of the quaternions", len(a), 8)
	x, l, e = origami.Quotient(q)
	wantSame(t, "Quotient of the quaternions", samePair, pair{x, l}, e, pair{torus(), make([]int, 8)}, api.OK)
}

// P6.3: Covering against all lists.
func TestCovering(t *testing.T) {
	r := rand.New(rand.NewSource(7))
	some := 0
	for range 400 {
		b := randomConnected(r, 1+r.Intn(3))
		a := randomConnected(r, 1+r.Intn(6))
		if k := 1 + r.Intn(3); r.Intn(2) == 0 && k*len(b.Right) <= 6 {
			a, _ = randomCover(r, b, k)
		}
		if len(a.Right) > 6 || len(b.Right) > 4 {
			continue
		}
		l := covers(a, b)
		f, e := origami.Covering(a, b)
		if len(l) == 0 {
			wantList(t, fmt.Sprint("Covering of ", a, b), f, e, nil, api.ErrNone)
			continue
		}
		some++
		wantList(t, fmt.Sprint("Covering of ", a, b), f, e, l[0], api.OK)
	}
	want(t, "some are covered", some > 100, true)
	for range 30 {
		b := randomConnected(r, 1+r.Intn(10))
		a, f := randomCover(r, b, 1+r.Intn(60/len(b.Right)))
		g, e := origami.Covering(a, b)
		want(t, "Covering", e, api.OK)
		want(t, "it is a covering", isCover(a, b, g), true)
		want(t, "the least one", g[0] <= f[0], true)
		for _, l := range [][]int{f, g} {
			want(t, "CheckCovering", origami.CheckCovering(a, b, l), api.OK)
		}
		if len(a.Right) > len(b.Right) {
			want(t, "CheckIsomorphism of a covering", origami.CheckIsomorphism(a, b, f), api.ErrShape)
			_, e = origami.Isomorphism(a, b)
			want(t, "Isomorphism", e, api.ErrNone)
			_, e = origami.Covering(b, a)
			want(t, "Covering by fewer squares", e, api.ErrNone)
		}
	}
	f, e := origami.Covering(grid(4, 1, 3), torus())
	wantList(t, "Covering of a square", f, e, make([]int, 12), api.OK)
}

// P6.3: which lists are accepted, against the definitions, also with origamis that are not connected.
func TestChecks(t *testing.T) {
	all := slices.Concat(small(2), []api.Origami{ell(), squares([]int{1, 2, 0}, []int{1, 2, 0}), squares([]int{1, 0, 2}, identity(3)), squares(identity(3), identity(3)), beside(torus(), twoWide())})
	accepted := map[api.Errno]int{}
	for _, a := range all {
		for _, b := range all {
			for _, f := range lists(len(a.Right), len(b.Right)) {
				e, shape := api.OK, api.OK
				if !isCover(a, b, f) {
					e = api.ErrProof
				}
				want(t, fmt.Sprint("CheckCovering of ", a, b, f), origami.CheckCovering(a, b, f), e)
				accepted[e]++
				if shape = e; len(a.Right) != len(b.Right) {
					shape = api.ErrShape
				}
				want(t, fmt.Sprint("CheckIsomorphism of ", a, b, f), origami.CheckIsomorphism(a, b, f), shape)
			}
		}
	}
	want(t, "coverings", accepted[api.OK] > 20, true)
	want(t, "others", accepted[api.ErrProof] > 500, true)
}

// P6.3: the errors of the checks.
func TestCheckErrors(t *testing.T) {
	two, one := squares(identity(2), identity(2)), torus()
	for _, c := range []struct {
		a, b         api.Origami
		f            []int
		cover, equal api.Errno
	}{
		{ell(), ell(), []int{0, 1, 2}, api.OK, api.OK},
		{ell(), ell(), []int{0, 2, 1}, api.ErrProof, api.ErrProof},
		{ell(), ell(), []int{0, 1}, api.ErrShape, api.ErrShape},
		{ell(), ell(), nil, api.ErrShape, api.ErrShape},
		{ell(), ell(), []int{9, 9, 9, 9}, api.ErrShape, api.ErrShape},
		{ell(), ell(), []int{0, 1, 3}, api.ErrRange, api.ErrRange},
		{ell(), ell(), []int{2, 2, -1}, api.ErrRange, api.ErrRange},
		{ell(), ell(), []int{-most - 1, most, 0}, api.ErrRange, api.ErrRange},
		{ell(), ell(), []int{0, 0, 0}, api.ErrProof, api.ErrProof},
		{ell(), one, []int{0, 0, 0}, api.OK, api.ErrShape},
		{ell(), one, []int{0, 0, 1}, api.ErrRange, api.ErrShape},
		{ell(), one, []int{0}, api.ErrShape, api.ErrShape},
		{one, ell(), []int{0}, api.ErrProof, api.ErrShape},
		{one, ell(), []int{0, 1, 2}, api.ErrShape, api.ErrShape},
		// Each square is taken well, but not every one is an image.
		{two, two, []int{0, 0}, api.ErrProof, api.ErrProof},
		{one, two, []int{1}, api.ErrProof, api.ErrShape},
		{two, two, []int{1, 0}, api.OK, api.OK},
		{two, one, []int{0, 0}, api.OK, api.ErrShape},
		{beside(ell(), ell()), ell(), []int{0, 1, 2, 0, 1, 2}, api.OK, api.ErrShape},
		{beside(ell(), torus()), beside(torus(), torus()), []int{1, 1, 1, 0}, api.OK, api.ErrShape},
	} {
		want(t, fmt.Sprint("CheckCovering of ", c.a, c.b, c.f), origami.CheckCovering(c.a, c.b, c.f), c.cover)
		want(t, fmt.Sprint("CheckIsomorphism of ", c.a, c.b, c.f), origami.CheckIsomorphism(c.a, c.b, c.f), c.equal)
	}
	for _, f := range [][]int{{0, 2, 1, 3}, {1, 0, 3, 2}, {0, 0, 0, 0}} {
		// Only Right, or only Up, is kept.
		a, b := squares([]int{1, 0, 3, 2}, []int{2, 3, 0, 1}), squares([]int{2, 3, 0, 1}, []int{2, 3, 0, 1})
		for _, o := range []api.Origami{a, b, squares(b.Right, a.Right)} {
			for _, p := range []api.Origami{a, b, squares(b.Right, a.Right)} {
				e := api.OK
				if !isCover(o, p, f) {
					e = api.ErrProof
				}
				want(t, fmt.Sprint("CheckIsomorphism of ", o, p, f), origami.CheckIsomorphism(o, p, f), e)
			}
		}
	}
}
