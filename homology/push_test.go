package homology_test

import (
	"math/rand"
	"slices"
	"strings"
	"testing"

	"flatland/api"
	"flatland/homology"
	"flatland/orbit"
)

// wantPush checks the origami and the chain of a push.
func wantPush(t *testing.T, what string, o api.Origami, c []int, e api.Errno, p api.Origami, d []int, f api.Errno) {
	t.Helper()
	if !sameOrigami(o, p) || !slices.Equal(c, d) || e != f {
		t.Errorf("%s: %v, %v, %d, want %v, %v, %d", what, o, c, e, p, d, f)
	}
}

// P8.4, examples 1 and 2.
func TestPushExamples(t *testing.T) {
	x, y, e := homology.Holonomy(torus(), []int{1, 0})
	wantBoth(t, "the holonomy of a", [2]int{x, y}, e, [2]int{1, 0}, api.OK)
	o, c, e := homology.Push(torus(), "T", []int{0, 1})
	wantPush(t, "b by T", o, c, e, torus(), []int{1, 1}, api.OK)
	o, c, e = homology.Push(torus(), "S", []int{1, 0})
	wantPush(t, "a by S", o, c, e, torus(), []int{0, 1}, api.OK)
	o, c, e = homology.Push(torus(), "S", []int{0, 1})
	wantPush(t, "b by S", o, c, e, torus(), []int{-1, 0}, api.OK)
	basis := [][]int{{1, 0}, {0, 1}}
	m, e := homology.Cocycle(torus(), "T", basis, basis)
	wantLists(t, "Cocycle", m, e, [][]int{{1, 0}, {1, 1}}, api.OK)
}

// P8.4: the holonomy is the sums of the numbers.
func TestHolonomy(t *testing.T) {
	r := rand.New(rand.NewSource(31))
	for _, o := range origamis(r, 60, 50) {
		n, c := len(o.Right), randomChain(r, o, api.MaxChain)
		sums := [2]int{}
		for i, k := range c {
			sums[i/n] += k
		}
		x, y, e := homology.Holonomy(o, c)
		wantBoth(t, "Holonomy", [2]int{x, y}, e, sums, api.OK)
	}
	c := slices.Repeat([]int{api.MaxChain}, 120)
	x, y, e := homology.Holonomy(squares(identity(60), identity(60)), c)
	wantBoth(t, "a large holonomy", [2]int{x, y}, e, [2]int{60000000, 60000000}, api.OK)
}

// P8.4: words push as their letters do, from the last one to the first one, and lead to the origamis of package orbit.
func TestPush(t *testing.T) {
	r := rand.New(rand.NewSource(32))
	for _, o := range origamis(r, 60, 60) {
		list := []string{"", "S", "T", "s", "t", "ST", "TS", "sT", "Ts", randomWord(r, 20), randomWord(r, r.Intn(21))}
		for _, w := range list {
			c := randomChain(r, o, 1+r.Intn(api.MaxChain))
			p, d := pushWord(o, w, c)
			q, image, e := homology.Push(o, w, c)
			wantPush(t, "Push by "+w, q, image, e, p, d, api.OK)
			q, e = orbit.Act(o, w)
			want(t, "no error", e, api.OK)
			want(t, "the origami of "+w, sameOrigami(p, q), true)
		}
	}
	// Inverse letters, and words that are 1, lead back.
	for _, o := range small(4) {
		for i := range 2 * len(o.Right) {
			c := edgeChain(len(o.Right), i)
			for _, w := range []string{"Ss", "sS", "Tt", "tT", "", "tsSTtT"} {
				p, d, e := homology.Push(o, w, c)
				wantPush(t, "Push by "+w, p, d, e, o, c, api.OK)
			}
		}
	}
}

// P8.4: images may be out of the range of chains; twenty letters make the largest ones.
func TestLargePush(t *testing.T) {
	c := []int{api.MaxChain, api.MaxChain}
	_, d, e := homology.Push(torus(), "TTTTTTTTTTTTTTTTTTTT", c)
	wantList(t, "T 20 times", d, e, []int{21000000, 1000000}, api.OK)
	// The matrix of TSts makes most directions longer, each time by more than twice.
	_, d, e = homology.Push(torus(), strings.Repeat("TSts", 5), []int{api.MaxChain, -api.MaxChain})
	image := []int{api.MaxChain, -api.MaxChain}
	for range 5 {
		m := matrixOf("TSts")
		image = []int{m[0][0]*image[0] + m[0][1]*image[1], m[1][0]*image[0] + m[1][1]*image[1]}
	}
	wantList(t, "TSts 5 times", d, e, image, api.OK)
	want(t, "is long", slices.Max(image) > 10*api.MaxChain || slices.Min(image) < -10*api.MaxChain, true)
}

// P8.4: the errors of words: their length before their letters.
func TestWordErrors(t *testing.T) {
	basis := [][]int{{1, 0}, {0, 1}}
	for w, f := range map[string]api.Errno{
		strings.Repeat("T", 20):       api.OK,
		strings.Repeat("T", 21):       api.ErrLarge,
		strings.Repeat("x", 21):       api.ErrLarge,
		strings.Repeat("x", 20):       api.ErrSyntax,
		strings.Repeat("T", 19) + "x": api.ErrSyntax,
		"x":                           api.ErrSyntax,
		"xT":                          api.ErrSyntax,
		"ST ":                         api.ErrSyntax,
		"U":                           api.ErrSyntax,
		"\x00":                        api.ErrSyntax,
		"S\xff":                       api.ErrSyntax,
		"Tß":                          api.ErrSyntax,
		"Ѕ":                           api.ErrSyntax, // a letter that looks like S
		"ſ":                           api.ErrSyntax, // a long s
	} {
		_, _, e := homology.Push(torus(), w, []int{1, 0})
		want(t, "Push by "+w, e, f)
		_, e = homology.Cocycle(torus(), w, basis, basis)
		want(t, "Cocycle of "+w, e, f)
		// The chain of Push comes before the word, the bases of Cocycle behind it.
		_, _, e = homology.Push(torus(), w, []int{1, 0, 0})
		want(t, "Push of no chain by "+w, e, api.ErrShape)
		_, _, e = homology.Push(torus(), w, []int{1, api.MaxChain + 1})
		want(t, "Push of a chain out of range by "+w, e, api.ErrRange)
		if f != api.OK {
			_, e = homology.Cocycle(torus(), w, [][]int{{1}}, nil)
			want(t, "Cocycle of "+w+" with errors", e, f)
		}
	}
}

// matrixOf returns the matrix of a word.
func matrixOf(w string) [2][2]int {
	m := [2][2]int{{1, 0}, {0, 1}}
	for _, c := range w {
		k := map[rune][2][2]int{'S': {{0, -1}, {1, 0}}, 'T': {{1, 1}, {0, 1}}, 's': {{0, 1}, {-1, 0}}, 't': {{1, -1}, {0, 1}}}[c]
		m = [2][2]int{
			{m[0][0]*k[0][0] + m[0][1]*k[1][0], m[0][0]*k[0][1] + m[0][1]*k[1][1]},
			{m[1][0]*k[0][0] + m[1][1]*k[1][0], m[1][0]*k[0][1] + m[1][1]*k[1][1]},
		}
	}
	return m
}

// P8.7: words keep cycles, boundaries and intersection numbers, and their matrices move the holonomy.
func TestWordsKeep(t *testing.T) {
	r := rand.New(rand.NewSource(33))
	for _, o := range origamis(r, 60, 40) {
		for _, w := range append(words(2), randomWord(r, 3+r.Intn(5))) {
			a, b := randomCycle(r, o, 3), randomCycle(r, o, 3)
			p, pushed, _ := homology.Push(o, w, a)
			_, other, _ := homology.Push(o, w, b)
			want(t, "a cycle", slices.ContainsFunc(boundaryOf(p, pushed), func(x int) bool { return x != 0 }), false)
			want(t, "the intersection number", crossed(p, pushed, other), intersection(t, o, a, b))
			_, bound, _ := homology.Push(o, w, squareOf(o, r.Intn(len(o.Right))))
			_, is, e := homology.Bounds(p, bound)
			wantBoth(t, "a boundary", is, e, true, api.OK)
			c := randomChain(r, o, 1000)
			x, y, _ := homology.Holonomy(o, c)
			_, d, _ := homology.Push(o, w, c)
			u, v, e := homology.Holonomy(p, d)
			m := matrixOf(w)
			wantBoth(t, "the holonomy", [2]int{u, v}, e, [2]int{m[0][0]*x + m[0][1]*y, m[1][0]*x + m[1][1]*y}, api.OK)
		}
	}
}

// P8.4: the rows of a cocycle are the coordinates of images.
func TestCocycle(t *testing.T) {
	r := rand.New(rand.NewSource(34))
	for _, o := range origamis(r, 12, 40) {
		for _, w := range []string{"", "S", "T", "s", "t", randomWord(r, 4), randomWord(r, 8)} {
			b := mixed(r, o, basisOf(t, o), 5, 10)
			p, _, _ := homology.Push(o, w, b[0])
			to := mixed(r, p, basisOf(t, p), 5, 10)
			m, e := homology.Cocycle(o, w, b, to)
			want(t, "no error", e, api.OK)
			want(t, "its rows", len(m), len(b))
			for i, row := range m {
				_, image := pushWord(o, w, b[i])
				want(t, "its columns", len(row), len(b))
				want(t, "a row of the cocycle", areHomologous(p, image, sumOf(row, to, len(image))), true)
			}
			// P8.7: it keeps the intersection form.
			before, _ := homology.Gram(o, b)
			after, _ := homology.Gram(p, to)
			want(t, "the form is kept", sameLists(product(product(m, after), transposed(m)), before), true)
		}
	}
}

// P8.7: the cocycle of two words, one after the other, is the product of their matrices.
func TestCocycleProduct(t *testing.T) {
	r := rand.New(rand.NewSource(35))
	for _, o := range origamis(r, 12, 40) {
		v, w := randomWord(r, r.Intn(5)), randomWord(r, r.Intn(5))
		p, _, _ := homology.Push(o, w, edgeChain(len(o.Right), 0))
		q, _, _ := homology.Push(p, v, edgeChain(len(o.Right), 0))
		a, b, c := mixed(r, o, basisOf(t, o), 5, 5), mixed(r, p, basisOf(t, p), 5, 5), mixed(r, q, basisOf(t, q), 5, 5)
		first, e := homology.Cocycle(o, w, a, b)
		want(t, "no error", e, api.OK)
		second, e := homology.Cocycle(p, v, b, c)
		want(t, "no error", e, api.OK)
		both, e := homology.Cocycle(o, v+w, a, c)
		wantLists(t, "the cocycle of both words", both, e, product(first, second), api.OK)
	}
}

// P8.4: the errors of a cocycle, in the order in which they are listed.
func TestCocycleErrors(t *testing.T) {
	o := grid(2, 1) // by S a column of two squares
	rows, column := []int{1, 1, 0, 0}, []int{0, 0, 1, 0}
	b := [][]int{rows, column}
	to := [][]int{{1, 0, 0, 0}, {0, 0, 1, 1}}
	m, e := homology.Cocycle(o, "S", b, to)
	wantLists(t, "Cocycle", m, e, [][]int{{0, 1}, {-1, 0}}, api.OK)
	open, out := []int{1, 0, 0, 0}, []int{0, 0, 0, -api.MaxChain - 1}
	for what, c := range map[string]struct {
		w     string
		b, to [][]int
		e     api.Errno
	}{
		"a long word":                           {strings.Repeat("S", 21), [][]int{open}, [][]int{out}, api.ErrLarge},
		"a wrong word":                          {"Y", slices.Repeat(b, 21), nil, api.ErrSyntax},
		"many cycles":                           {"S", slices.Repeat(b, 21), [][]int{out}, api.ErrLarge},
		"a short chain":                         {"S", [][]int{rows, {1}}, [][]int{out}, api.ErrShape},
		"a chain out of range":                  {"S", [][]int{out, open}, nil, api.ErrRange},
		"no cycle":                              {"S", [][]int{rows, open}, [][]int{out}, api.ErrForm},
		"no basis":                              {"S", [][]int{rows, rows}, [][]int{out}, api.ErrProof},
		"nothing":                               {"S", nil, [][]int{out}, api.ErrProof},
		"many cycles for to":                    {"S", b, slices.Repeat([][]int{open}, 41), api.ErrLarge},
		"a short chain for to":                  {"S", b, [][]int{nil, out}, api.ErrShape},
		"a chain out of range for to":           {"S", b, [][]int{to[0], out}, api.ErrRange},
		"no cycle for to":                       {"S", b, b, api.ErrForm}, // one of the old origami
		"no basis for to":                       {"S", b, [][]int{to[0], times(2, to[1])}, api.ErrProof},
		"nothing for to":                        {"S", b, nil, api.ErrProof},
		"an image out of range and no basis to": {"T", [][]int{{1000000, 1000000, 1, 0}, {999999, 999999, 1, 0}}, [][]int{rows}, api.ErrProof},
	} {
		m, e := homology.Cocycle(o, c.w, c.b, c.to)
		wantLists(t, "Cocycle with "+what, m, e, nil, c.e)
	}
}

// P8.4: images out of the range of chains, and coordinates that are too large.
func TestCocycleLimits(t *testing.T) {
	unit := [][]int{{1, 0}, {0, 1}}
	huge := [][]int{{1000000, 999999}, {999999, 999998}} // (x, y) is -999998 x + 999999 y, and 999999 x - 1000000 y
	for what, c := range map[string]struct {
		w     string
		b, to [][]int
		m     [][]int
		e     api.Errno
	}{
		"an image at the limit":       {"T", [][]int{{999999, 1}, {1, 0}}, unit, [][]int{{1000000, 1}, {1, 0}}, api.OK},
		"an image out of range":       {"T", [][]int{{1000000, 1}, {1, 0}}, unit, nil, api.ErrRange},
		"a second image out of range": {"T", [][]int{{1, 0}, {1000000, 1}}, unit, nil, api.ErrRange},
		"a negative image":            {"t", [][]int{{-1000000, 1}, {1, 0}}, unit, nil, api.ErrRange},
		"only a step out of range":    {"tT", [][]int{{1000000, 1}, {1, 0}}, unit, [][]int{{1000000, 1}, {1, 0}}, api.OK},
		"coordinates at the limit":    {"", [][]int{{0, 1}, {1, 1000000}}, huge, [][]int{{999999, -1000000}, {999998000002, -999999000001}}, api.OK},
		"coordinates beyond it":       {"", [][]int{{0, 1}, {-1, 1000000}}, huge, nil, api.ErrLarge},
		// Of both the first element with an error decides.
		"a coordinate, then an image": {"t", [][]int{{-100003, 480000}, {-198617, 953333}}, huge, nil, api.ErrLarge},
		"an image, then a coordinate": {"t", [][]int{{-198617, 953333}, {-100003, 480000}}, huge, nil, api.ErrRange},
	} {
		m, e := homology.Cocycle(torus(), c.w, c.b, c.to)
		wantLists(t, "Cocycle with "+what, m, e, c.m, c.e)
	}
}
