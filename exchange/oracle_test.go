package exchange_test

import (
	"fmt"
	"math/big"
	"math/rand"
	"slices"

	"flatland/api"
	"flatland/field"
)

// surd is the number a + b w, w being the square root of 2.
type surd struct{ a, b *big.Rat }

func whole(n int) surd { return surd{big.NewRat(int64(n), 1), new(big.Rat)} }

func (x surd) plus(y surd) surd { return surd{new(big.Rat).Add(x.a, y.a), new(big.Rat).Add(x.b, y.b)} }

func (x surd) minus(y surd) surd {
	return surd{new(big.Rat).Sub(x.a, y.a), new(big.Rat).Sub(x.b, y.b)}
}

func (x surd) times(f *big.Rat) surd {
	return surd{new(big.Rat).Mul(x.a, f), new(big.Rat).Mul(x.b, f)}
}

// sign returns the sign: if a and b have different signs, it is that of the one whose square, that of b twice, is greater.
func (x surd) sign() int {
	if x.a.Sign() == 0 || x.a.Sign() == x.b.Sign() {
		return x.b.Sign()
	}
	square := new(big.Rat).Mul(x.b, x.b)
	square.Add(square, square)
	return x.a.Sign() * new(big.Rat).Mul(x.a, x.a).Cmp(square)
}

func (x surd) less(y surd) bool { return x.minus(y).sign() < 0 }

// num returns the normal form of a number, computed from its value alone.
func (x surd) num() api.Num {
	d := new(big.Int).Mul(x.a.Denom(), x.b.Denom())
	scaled := func(f *big.Rat) *big.Int {
		return new(big.Rat).Mul(f, new(big.Rat).SetInt(d)).Num()
	}
	a, b := scaled(x.a), scaled(x.b)
	g := new(big.Int).GCD(nil, nil, new(big.Int).Abs(a), new(big.Int).Abs(b))
	g.GCD(nil, nil, g, d)
	c := [][]int{listOf(a.Quo(a, g)), listOf(b.Quo(b, g))}
	for len(c) > 0 && len(c[len(c)-1]) == 0 {
		c = c[:len(c)-1]
	}
	return api.Num{C: c, D: listOf(d.Quo(d, g))}
}

// surdOf returns the value of a number.
func surdOf(x api.Num) surd {
	d := big.NewInt(1)
	if z := bigOf(x.D); z.Sign() != 0 {
		d = z
	}
	c := [2]*big.Int{new(big.Int), new(big.Int)}
	for i, l := range x.C {
		c[i] = bigOf(l)
	}
	return surd{new(big.Rat).SetFrac(c[0], d), new(big.Rat).SetFrac(c[1], d)}
}

func nums(list []surd) []api.Num {
	var l []api.Num
	for _, x := range list {
		l = append(l, x.num())
	}
	return l
}

// model is an exchange by the definitions alone.
type model struct {
	top, bottom []int
	lengths     []surd
}

// exchange returns the exchange, over the fractions if all lengths are fractions.
func (m model) exchange() api.Exchange {
	x := api.Exchange{Field: field.Rational(), Top: m.top, Bottom: m.bottom, Lengths: nums(m.lengths)}
	if slices.ContainsFunc(m.lengths, func(x surd) bool { return x.b.Sign() != 0 }) {
		x.Field = root2()
	}
	return x
}

// randomLength returns a positive number.
func randomLength(r *rand.Rand, kind int) surd {
	switch kind {
	case 0: // whole
		return whole(1 + r.Intn(9))
	case 1: // a fraction
		return surd{big.NewRat(int64(1+r.Intn(30)), int64(1+r.Intn(9))), new(big.Rat)}
	case 2: // a multiple of w
		return surd{new(big.Rat), big.NewRat(int64(1+r.Intn(9)), 3)}
	}
	for {
		x := surd{big.NewRat(int64(r.Intn(20)-8), int64(1+r.Intn(3))), big.NewRat(int64(r.Intn(20)-8), int64(1+r.Intn(3)))}
		if x.sign() > 0 {
			return x
		}
	}
}

// randomModel returns a random exchange of n letters with lengths of a kind from 0 to 3.
func randomModel(r *rand.Rand, n, kind int, mayReduce bool) model {
	x := randomRows(r, n, mayReduce)
	m := model{top: x.Top, bottom: x.Bottom}
	for range n {
		m.lengths = append(m.lengths, randomLength(r, kind))
	}
	return m
}

// before returns the sum of the lengths before a letter in a row.
func (m model) before(row []int, letter int) surd {
	sum := whole(0)
	for _, c := range row[:slices.Index(row, letter)] {
		sum = sum.plus(m.lengths[c])
	}
	return sum
}

func (m model) total() surd {
	sum := whole(0)
	for _, x := range m.lengths {
		sum = sum.plus(x)
	}
	return sum
}

// point returns a random point of the interval, often the beginning of an interval or an image of one.
func (m model) point(r *rand.Rand) surd {
	p := m.before([][]int{m.top, m.bottom}[r.Intn(2)], r.Intn(len(m.lengths)))
	switch r.Intn(3) {
	case 0:
		p = m.total().times(big.NewRat(int64(r.Intn(60)), 60))
	case 1:
		for range r.Intn(20) {
			p, _ = m.apply(p)
		}
	}
	return p
}

// apply returns the image of a point, and its letter.
func (m model) apply(p surd) (surd, int) {
	for c := range m.lengths {
		inside := p.minus(m.before(m.top, c))
		if inside.sign() >= 0 && inside.less(m.lengths[c]) {
			return m.before(m.bottom, c).plus(inside), c
		}
	}
	panic("the point is not in the interval")
}

// connections returns the connections.
func (m model) connections(bound int) []api.Connection {
	var list []api.Connection
	for _, from := range m.bottom[1:] {
		p := m.before(m.bottom, from)
	search:
		for steps := 0; steps <= bound; steps++ {
			for _, to := range m.top[1:] {
				if p.minus(m.before(m.top, to)).sign() == 0 {
					list = append(list, api.Connection{From: from, To: to, Steps: steps})
					break search
				}
			}
			p, _ = m.apply(p)
		}
	}
	return list
}

// step returns the exchange after a step of Rauzy induction; the kind is -1 if the last letters are equally long.
func (m model) step() (model, int) {
	n := len(m.top)
	a, b := m.top[n-1], m.bottom[n-1]
	lengths := slices.Clone(m.lengths)
	switch m.lengths[a].minus(m.lengths[b]).sign() {
	case 1:
		lengths[a] = m.lengths[a].minus(m.lengths[b])
		return model{m.top, behind(m.bottom, b, a), lengths}, 0
	case -1:
		lengths[b] = m.lengths[b].minus(m.lengths[a])
		return model{behind(m.top, a, b), m.bottom, lengths}, 1
	}
	return m, -1
}

// behind returns a row in which the letter x is put right behind the letter y.
func behind(row []int, x, y int) []int {
	var l []int
	for _, c := range row {
		if c != x {
			l = append(l, c)
		}
		if c == y {
			l = append(l, x)
		}
	}
	return l
}

// stepRows returns the rows after a step of a kind, and its matrix.
func stepRows(r api.Rows, kind int) (api.Rows, [][]int) {
	n := len(r.Top)
	a, b := r.Top[n-1], r.Bottom[n-1]
	m := make([][]int, n)
	for i := range m {
		m[i] = make([]int, n)
		m[i][i] = 1
	}
	if kind == 0 {
		m[a][b] = 1
		return api.Rows{Top: r.Top, Bottom: behind(r.Bottom, b, a)}, m
	}
	m[b][a] = 1
	return api.Rows{Top: behind(r.Top, a, b), Bottom: r.Bottom}, m
}

// product returns the product of two matrices.
func product(a, b [][]int) [][]int {
	c := make([][]int, len(a))
	for i, row := range a {
		c[i] = make([]int, len(b))
		for k, x := range row {
			for j, y := range b[k] {
				c[i][j] += x * y
			}
		}
	}
	return c
}

// follow returns the rows after steps of these kinds, and the matrix.
func follow(r api.Rows, kinds []int) (api.Rows, [][]int) {
	_, m := stepRows(r, 0)
	for i := range m {
		for j := range m {
			m[i][j] = 0
		}
		m[i][i] = 1
	}
	for _, kind := range kinds {
		next, step := stepRows(r, kind)
		r, m = next, product(m, step)
	}
	return r, m
}

// rename returns the rows with their letters renamed so that Top is 0, .., n - 1.
func rename(r api.Rows) api.Rows {
	x := api.Rows{Top: identity(len(r.Top))}
	for _, c := range r.Bottom {
		x.Bottom = append(x.Bottom, slices.Index(r.Top, c))
	}
	return x
}

// class returns the Rauzy class of rows.
func class(r api.Rows) api.Diagram {
	d := api.Diagram{Rows: []api.Rows{rename(r)}}
	number := map[string]int{fmt.Sprint(rename(r)): 0}
	for i := 0; i < len(d.Rows); i++ {
		var next [2]int
		for kind := range next {
			x, _ := stepRows(d.Rows[i], kind)
			x = rename(x)
			k, ok := number[fmt.Sprint(x)]
			if !ok {
				k = len(d.Rows)
				d.Rows = append(d.Rows, x)
				number[fmt.Sprint(x)] = k
			}
			next[kind] = k
		}
		d.Next = append(d.Next, next)
	}
	return d
}

// belts returns the belts of an exchange with the lengths unit times whole numbers.
func (m model) belts(unit surd) []api.Belt {
	number := map[string]int{} // of the points that are whole multiples of the unit
	for k := 0; m.multiple(k, unit).less(m.total()); k++ {
		number[fmt.Sprint(m.multiple(k, unit).num())] = k
	}
	n := len(number)
	images, letters := make([]int, n), make([]int, n)
	for k := range n {
		p, c := m.apply(m.multiple(k, unit))
		images[k], letters[k] = number[fmt.Sprint(p.num())], c
	}
	// Two codes that go on for ever are the same if they are for 2 n letters, as both repeat after at most n.
	codes := make([]string, n)
	for k := range n {
		var code []byte
		for i, p := 0, k; i < 2*n; i, p = i+1, images[p] {
			code = append(code, byte(letters[p]))
		}
		codes[k] = string(code)
	}
	var list []api.Belt
	for k := range n {
		if k > 0 && codes[k] == codes[k-1] {
			continue
		}
		width := 1
		for k+width < n && codes[k+width] == codes[k] {
			width++
		}
		isLeast := true
		code := []int{letters[k]}
		for p := images[k]; p != k; p = images[p] {
			isLeast = isLeast && p > k
			code = append(code, letters[p])
		}
		if isLeast {
			list = append(list, api.Belt{Left: m.multiple(k, unit).num(), Width: m.multiple(width, unit).num(), Code: code})
		}
	}
	return list
}

// multiple returns n times a number.
func (m model) multiple(n int, x surd) surd { return x.times(big.NewRat(int64(n), 1)) }

// determinant returns the determinant of a matrix.
func determinant(m [][]int) *big.Rat {
	n := len(m)
	a := make([][]*big.Rat, n)
	for i, row := range m {
		for _, x := range row {
			a[i] = append(a[i], big.NewRat(int64(x), 1))
		}
	}
	det := big.NewRat(1, 1)
	for i := range n {
		k := i
		for k < n && a[k][i].Sign() == 0 {
			k++
		}
		if k == n {
			return new(big.Rat)
		}
		if k != i {
			a[i], a[k] = a[k], a[i]
			det.Neg(det)
		}
		det.Mul(det, a[i][i])
		for k := i + 1; k < n; k++ {
			f := new(big.Rat).Quo(a[k][i], a[i][i])
			for j := range n {
				a[k][j] = new(big.Rat).Sub(a[k][j], new(big.Rat).Mul(f, a[i][j]))
			}
		}
	}
	return det
}
