package field

import (
	"slices"

	"flatland/api"
)

// Real is an open field.
type Real struct {
	field  api.Field
	degree int
	poly   [][]int // the polynomial
	start  interval
	near   enclosure // of start
}

// number is a number of a field, not necessarily in lowest terms: the integers are in normal form, and d is positive.
type number struct {
	c [api.MaxDegree][]int
	d []int
}

// Whole returns an integer as a number.
func Whole(n int) api.Num { return fraction(Of(n), []int{1}) }

// Ratio returns a fraction as a number.
func Ratio(a, b int) (api.Num, api.Errno) {
	if b == 0 {
		return api.Num{}, api.ErrZero
	}
	return fraction(Of(a), Of(b)), api.OK
}

// fraction returns a/b for normal lists, b not being 0.
func fraction(a, b []int) api.Num {
	n := number{d: b}
	n.c[0] = a
	return store(n.upright())
}

// Open returns a field with its methods.
func Open(f api.Field) (*Real, api.Errno) {
	if e := Check(f); e != api.OK {
		return nil, e
	}
	f.Poly = slices.Clone(f.Poly)
	r := &Real{field: f, degree: len(f.Poly) - 1, poly: lists(f.Poly)}
	if r.degree > 1 {
		r.start = r.first()
		r.near = r.enclose(r.start)
	}
	return r, api.OK
}

// Field returns the field.
func (r *Real) Field() api.Field {
	if r == nil {
		return api.Field{}
	}
	f := r.field
	f.Poly = slices.Clone(f.Poly)
	return f
}

// Normal returns the normal form.
func (r *Real) Normal(x api.Num) api.Num {
	if r == nil {
		return api.Num{}
	}
	return store(r.load(x))
}

// Add returns x + y.
func (r *Real) Add(x, y api.Num) api.Num {
	if r == nil {
		return api.Num{}
	}
	return store(r.load(x).plus(r.load(y)))
}

// Sub returns x - y.
func (r *Real) Sub(x, y api.Num) api.Num {
	if r == nil {
		return api.Num{}
	}
	return store(r.load(x).minus(r.load(y)))
}

// Mul returns x * y.
func (r *Real) Mul(x, y api.Num) api.Num {
	if r == nil {
		return api.Num{}
	}
	return store(r.mul(r.load(x), r.load(y)))
}

// Quo returns x / y.
func (r *Real) Quo(x, y api.Num) (api.Num, api.Errno) {
	if r == nil {
		return api.Num{}, api.ErrNil
	}
	n := r.load(y)
	if n.isZero() {
		return api.Num{}, api.ErrZero
	}
	return store(r.mul(r.load(x), r.inverse(n))), api.OK
}

// load reads a number.
func (r *Real) load(x api.Num) number {
	n := number{d: normal(x.D)}
	if len(n.d) == 0 {
		n.d = []int{1}
	}
	above := max(len(x.C)-r.degree, 0)
	copy(n.c[:], x.C[above:])
	for i, c := range n.c {
		n.c[i] = normal(c)
	}
	for i := above - 1; i >= 0; i-- {
		n.c = r.raised(n.c)
		n.c[0] = plus(n.c[0], 1, normal(x.C[i]))
	}
	return n.upright()
}

// upright returns the number with a positive d.
func (n number) upright() number {
	if sign(n.d) < 0 {
		n.d = negative(n.d)
		n = n.opposite()
	}
	return n
}

// store returns a number in normal form; it shares no memory with n.
func store(n number) api.Num {
	top := len(n.c)
	for top > 0 && len(n.c[top-1]) == 0 {
		top--
	}
	g := n.d
	for _, c := range n.c[:top] {
		if isOne(g) {
			break
		}
		g = gcd(g, c)
	}
	if top == 0 {
		return api.Num{D: []int{1}}
	}
	x := api.Num{C: make([][]int, top), D: reduced(n.d, g)}
	for i := range x.C {
		x.C[i] = reduced(n.c[i], g)
	}
	return x
}

// reduced returns x/g as a new list, for normal lists; g is positive and divides x.
func reduced(x, g []int) []int {
	if isOne(g) {
		return slices.Clone(x)
	}
	q, _ := divide(x, g)
	return q
}

// isZero reports whether a number is 0.
func (n number) isZero() bool { return n.isFraction() && len(n.c[0]) == 0 }

// isFraction reports whether a number is a fraction.
func (n number) isFraction() bool {
	for _, c := range n.c[1:] {
		if len(c) > 0 {
			return false
		}
	}
	return true
}

// opposite returns -n.
func (n number) opposite() number {
	for i, c := range n.c {
		n.c[i] = negative(c)
	}
	return n
}

// minus returns n - m.
func (n number) minus(m number) number { return n.plus(m.opposite()) }

// plus returns n + m.
func (n number) plus(m number) number {
	if compare(n.d, m.d) != 0 {
		n, m = n.widened(m.d), m.widened(n.d)
	}
	for i, c := range m.c {
		n.c[i] = plus(n.c[i], 1, c)
	}
	return n
}

// widened returns the same number with everything times k.
func (n number) widened(k []int) number {
	if isOne(k) {
		return n
	}
	for i, c := range n.c {
		n.c[i] = product(c, k)
	}
	n.d = product(n.d, k)
	return n
}

// mul returns n m.
func (r *Real) mul(n, m number) number {
	var all [2*api.MaxDegree - 1][]int
	for i, a := range n.c {
		for j, b := range m.c {
			if len(a) > 0 && len(b) > 0 {
				all[i+j] = plus(all[i+j], 1, product(a, b))
			}
		}
	}
	for i := 2*r.degree - 2; i >= r.degree; i-- {
		r.replace(all[i-r.degree:i], all[i])
	}
	z := number{d: product(n.d, m.d)}
	copy(z.c[:r.degree], all[:])
	return z
}

// replace adds to the coefficients c what top times w^degree is: the polynomial, but for its last coefficient 1, times -top.
func (r *Real) replace(c [][]int, top []int) {
	if len(top) == 0 {
		return
	}
	for i := range c {
		if p := r.field.Poly[i]; p != 0 {
			c[i] = plus(c[i], -p, top)
		}
	}
}

// raised returns the coefficients of w times the number with the coefficients c.
func (r *Real) raised(c [api.MaxDegree][]int) [api.MaxDegree][]int {
	var z [api.MaxDegree][]int
	copy(z[1:r.degree], c[:])
	r.replace(z[:r.degree], c[r.degree-1])
	return z
}
