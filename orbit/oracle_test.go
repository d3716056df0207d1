package orbit_test

import (
	"math/big"
	"slices"
	"strings"

	"flatland/api"
	"flatland/origami"
)

// What the tests compare with is computed here by the definitions alone, with searches where the program has none.

// letterMatrix returns the matrix of a letter.
func letterMatrix(c rune) api.Unit {
	switch c {
	case 'S':
		return unit(0, -1, 1, 0)
	case 'T':
		return unit(1, 1, 0, 1)
	case 's':
		return unit(0, 1, -1, 0)
	}
	return unit(1, -1, 0, 1)
}

// bigMatrix is a matrix of numbers of any size.
type bigMatrix [2][2]*big.Int

func bigOf(m api.Unit) bigMatrix {
	return bigMatrix{{big.NewInt(int64(m.A)), big.NewInt(int64(m.B))}, {big.NewInt(int64(m.C)), big.NewInt(int64(m.D))}}
}

func (a bigMatrix) times(b bigMatrix) bigMatrix {
	var m bigMatrix
	for i := range 2 {
		for j := range 2 {
			m[i][j] = new(big.Int)
			for k := range 2 {
				m[i][j].Add(m[i][j], new(big.Int).Mul(a[i][k], b[k][j]))
			}
		}
	}
	return m
}

// unit returns the matrix, if no entry is too large.
func (a bigMatrix) unit() (api.Unit, bool) {
	for _, row := range a {
		for _, x := range row {
			if new(big.Int).Abs(x).Cmp(big.NewInt(1000000)) > 0 {
				return api.Unit{}, false
			}
		}
	}
	return unit(int(a[0][0].Int64()), int(a[0][1].Int64()), int(a[1][0].Int64()), int(a[1][1].Int64())), true
}

// matrixOf returns the matrix of a word, or ErrLarge.
func matrixOf(w string) (api.Unit, api.Errno) {
	m := bigOf(one())
	for _, c := range w {
		m = m.times(bigOf(letterMatrix(c)))
		if _, ok := m.unit(); !ok {
			return api.Unit{}, api.ErrLarge
		}
	}
	u, _ := m.unit()
	return u, api.OK
}

// wordOf writes the word of a matrix letter by letter, however many there are.
func wordOf(m api.Unit) string {
	var w strings.Builder
	for m.C != 0 {
		k := 0
		for m.C > 0 && k*m.C > m.A || m.C < 0 && k*m.C < m.A {
			k--
		}
		for m.C > 0 && (k+1)*m.C <= m.A || m.C < 0 && (k+1)*m.C >= m.A {
			k++
		}
		writeT(&w, k)
		w.WriteByte('S')
		m = unit(m.C, m.D, -m.A+k*m.C, -m.B+k*m.D)
	}
	if m.A == -1 {
		w.WriteString("SS")
		m.B = -m.B
	}
	writeT(&w, m.B)
	return w.String()
}

func writeT(w *strings.Builder, k int) {
	for ; k > 0; k-- {
		w.WriteByte('T')
	}
	for ; k < 0; k++ {
		w.WriteByte('t')
	}
}

// The steps from a square.

func leftOf(o api.Origami, x int) int { return slices.Index(o.Right, x) }

func downOf(o api.Origami, x int) int { return slices.Index(o.Up, x) }

// actLetter follows the table of the chapter square by square.
func actLetter(o api.Origami, c byte) api.Origami {
	n := squares(nil, nil)
	for x := range o.Right {
		right, up := o.Right[x], o.Up[x]
		switch c {
		case 'S':
			right, up = downOf(o, x), o.Right[x]
		case 's':
			right, up = o.Up[x], leftOf(o, x)
		case 'T':
			up = leftOf(o, o.Up[x])
		case 't':
			up = o.Right[o.Up[x]]
		}
		n.Right, n.Up = append(n.Right, right), append(n.Up, up)
	}
	return n
}

// actWord acts by the letters from the last one to the first one.
func actWord(o api.Origami, w string) api.Origami {
	for i := len(w) - 1; i >= 0; i-- {
		o = actLetter(o, w[i])
	}
	return o
}

// turnedBy180 is the origami whose permutations are left and down.
func turnedBy180(o api.Origami) api.Origami {
	n := squares(nil, nil)
	for x := range o.Right {
		n.Right, n.Up = append(n.Right, leftOf(o, x)), append(n.Up, downOf(o, x))
	}
	return n
}

// lessLabel compares labels as lists.
func lessLabel(a, b api.Origami) int {
	return slices.Compare(slices.Concat(a.Right, a.Up), slices.Concat(b.Right, b.Up))
}

// orbitBy returns the orbit: all labels to which all four letters lead, until there are no others.
func orbitBy(o api.Origami) api.Orbit {
	x := api.Orbit{Labels: []api.Origami{label(o)}}
	place := func(o api.Origami) int {
		return slices.IndexFunc(x.Labels, func(y api.Origami) bool { return sameOrigami(o, y) })
	}
	for i := 0; i < len(x.Labels); i++ {
		for _, c := range []byte("tsTS") {
			if next := label(actLetter(x.Labels[i], c)); place(next) < 0 {
				x.Labels = append(x.Labels, next)
			}
		}
	}
	slices.SortFunc(x.Labels, lessLabel)
	for _, o := range x.Labels {
		x.S = append(x.S, place(label(actLetter(o, 'S'))))
		x.T = append(x.T, place(label(actLetter(o, 'T'))))
	}
	return x
}

// pair is a member of an orbit and what -1 takes it to, ascending.
type pair [2]int

// pairOf returns the pair of a member.
func pairOf(x api.Orbit, i int) pair {
	j := x.S[x.S[i]]
	return pair{min(i, j), max(i, j)}
}

// image returns the pair to which a word of letters S and T takes another one.
func (p pair) image(x api.Orbit, w string) pair {
	for i := len(w) - 1; i >= 0; i-- {
		list := x.S
		if w[i] == 'T' {
			list = x.T
		}
		p = pair{list[p[0]], list[p[1]]}
	}
	return pair{min(p[0], p[1]), max(p[0], p[1])}
}

// allPairs returns the pairs, ordered by their lesser members.
func allPairs(x api.Orbit) []pair {
	var list []pair
	for i := range x.Labels {
		if p := pairOf(x, i); !slices.Contains(list, p) {
			list = append(list, p)
		}
	}
	return list
}

// pairCycles returns the cycles of a word on the pairs.
func pairCycles(x api.Orbit, w string) [][]pair {
	var list [][]pair
	for _, p := range allPairs(x) {
		if slices.ContainsFunc(list, func(c []pair) bool { return slices.Contains(c, p) }) {
			continue
		}
		c := []pair{p}
		for q := p.image(x, w); q != p; q = q.image(x, w) {
			c = append(c, q)
		}
		list = append(list, c)
	}
	return list
}

// cuspsBy returns the cusps.
func cuspsBy(x api.Orbit) []api.Cusp {
	var list []api.Cusp
	for _, c := range pairCycles(x, "T") {
		cusp := api.Cusp{Width: len(c)}
		for _, p := range c {
			cusp.Members = append(cusp.Members, p[0])
		}
		list = append(list, cusp)
	}
	return list
}

// fixedPairs returns how many pairs a word leaves as they are.
func fixedPairs(x api.Orbit, w string) int {
	n := 0
	for _, c := range pairCycles(x, w) {
		if len(c) == 1 {
			n++
		}
	}
	return n
}

// genusBy returns the genus by the Euler characteristic: the pairs are the edges of a map on the curve, the cycles of S, ST and T its vertices of two colours and its faces.
func genusBy(x api.Orbit) int {
	euler := len(pairCycles(x, "S")) + len(pairCycles(x, "ST")) + len(pairCycles(x, "T")) - len(allPairs(x))
	return (2 - euler) / 2
}

// waysBy returns the ways from a member to all others: of the words of each length that lead to a member for the first time the least one is kept.
func waysBy(x api.Orbit, from int) []string {
	ways := make([]string, len(x.Labels))
	known := make([]bool, len(x.Labels))
	known[from] = true
	for layer := []int{from}; len(layer) > 0; {
		var next []int
		for _, i := range layer {
			for c, j := range map[string]int{"S": x.S[i], "T": x.T[i]} {
				if known[j] && !slices.Contains(next, j) {
					continue
				}
				if w := c + ways[i]; !known[j] {
					known[j], ways[j] = true, w
					next = append(next, j)
				} else {
					ways[j] = min(ways[j], w)
				}
			}
		}
		layer = next
	}
	return ways
}

// inverseOf returns the inverse of a word.
func inverseOf(w string) string {
	inverse := ""
	for _, c := range w {
		inverse = string("sStT"[strings.IndexRune("SsTt", c)]) + inverse
	}
	return inverse
}

// reducedBy takes neighbouring inverse letters away as long as there are some.
func reducedBy(w string) string {
	for {
		shorter := w
		for _, two := range []string{"Ss", "sS", "Tt", "tT"} {
			shorter = strings.Replace(shorter, two, "", 1)
		}
		if shorter == w {
			return w
		}
		w = shorter
	}
}

// generatorsBy returns the words that generate the Veech group.
func generatorsBy(x api.Orbit, o api.Origami) []string {
	first := slices.IndexFunc(x.Labels, func(y api.Origami) bool { return sameOrigami(label(o), y) })
	ways := waysBy(x, first)
	var list []string
	for i := range x.Labels {
		for _, g := range []string{"S", "T"} {
			to := x.S[i]
			if g == "T" {
				to = x.T[i]
			}
			if w := reducedBy(inverseOf(ways[to]) + g + ways[i]); w != "" && !slices.Contains(list, w) {
				list = append(list, w)
			}
		}
	}
	return list
}

// meanBy returns the mean of the sums of height/width: of the numbers of rows, divided by their lengths.
func meanBy(x api.Orbit) *big.Rat {
	sum := new(big.Rat)
	for _, o := range x.Labels {
		rows, _ := origami.Cycles(o.Right)
		for _, row := range rows {
			sum.Add(sum, big.NewRat(1, int64(len(row))))
		}
	}
	return sum.Mul(sum, big.NewRat(1, int64(len(x.Labels))))
}

// lyapunovBy returns the sum of the Lyapunov exponents.
func lyapunovBy(x api.Orbit) *big.Rat {
	sum := new(big.Rat)
	orders, _ := origami.Stratum(x.Labels[len(x.Labels)-1])
	for _, d := range orders {
		sum.Add(sum, big.NewRat(int64(d*(d+2)), int64(d+1)))
	}
	sum.Mul(sum, big.NewRat(1, 12))
	return sum.Add(sum, meanBy(x))
}

// fracOf returns a fraction in lowest terms.
func fracOf(r *big.Rat) api.Frac {
	return api.Frac{Num: int(r.Num().Int64()), Den: int(r.Denom().Int64())}
}

// badOrigamis are origamis that are not valid, with their errors.
func badOrigamis() map[string]struct {
	o api.Origami
	e api.Errno
} {
	type bad = struct {
		o api.Origami
		e api.Errno
	}
	return map[string]bad{
		"no squares":             {squares(nil, nil), api.ErrShape},
		"no Up":                  {squares([]int{0}, nil), api.ErrShape},
		"a longer Right":         {squares([]int{0, 1, 2}, []int{1, 0}), api.ErrShape},
		"61 squares":             {squares(identity(61), identity(61)), api.ErrLarge},
		"a square out of range":  {squares([]int{0, 2}, []int{1, 0}), api.ErrRange},
		"a negative square":      {squares([]int{0}, []int{-1}), api.ErrRange},
		"the greatest int":       {squares([]int{most, 0}, []int{0, -most - 1}), api.ErrRange},
		"a square twice":         {squares([]int{0, 0}, []int{1, 0}), api.ErrForm},
		"a square twice in Up":   {squares([]int{0, 1, 2}, []int{2, 1, 2}), api.ErrForm},
		"twice and out of range": {squares([]int{1, 1}, []int{0, 5}), api.ErrForm},
	}
}

// splitOrigamis are origamis that are not connected.
func splitOrigamis() []api.Origami {
	return []api.Origami{
		squares([]int{0, 1}, []int{0, 1}),
		squares(identity(60), identity(60)),
		beside(ell(), ell()),
		beside(torus(), ell()),
	}
}
