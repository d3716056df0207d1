package exchange

import (
	"slices"

	"flatland/api"
	"flatland/field"
)

// body is an exchange that was checked, or that steps make of one: its lengths are in normal form, and its lists are its own.
type body struct {
	*field.Real
	rows    api.Rows
	lengths []api.Num
}

// open checks an exchange.
func open(x api.Exchange) (*body, api.Errno) {
	r, e := field.Open(x.Field)
	if e != api.OK {
		return nil, e
	}
	rows := api.Rows{Top: x.Top, Bottom: x.Bottom}
	if e := CheckRows(rows); e != api.OK {
		return nil, e
	}
	if len(x.Lengths) != len(x.Top) {
		return nil, api.ErrShape
	}
	b := &body{Real: r, rows: cloned(rows)}
	for _, length := range x.Lengths {
		b.lengths = append(b.lengths, b.Normal(length))
	}
	if !b.isPositive() {
		return nil, api.ErrZero
	}
	return b, api.OK
}

// openIrreducible checks an exchange whose rows have to be irreducible.
func openIrreducible(x api.Exchange) (*body, api.Errno) {
	b, e := open(x)
	if e == api.OK && !isIrreducible(b.rows) {
		return nil, api.ErrForm
	}
	return b, e
}

// isPositive reports whether all lengths are positive.
func (b *body) isPositive() bool {
	return !slices.ContainsFunc(b.lengths, func(length api.Num) bool { return b.Sign(length) <= 0 })
}

// exchange returns the exchange. It shares memory with the body, which is not used any more.
func (b *body) exchange() api.Exchange {
	return api.Exchange{Field: b.Field(), Top: b.rows.Top, Bottom: b.rows.Bottom, Lengths: b.lengths}
}
