package exchange

import (
	"slices"

	"flatland/api"
	"flatland/field"
)

// suspension returns the suspension of an exchange with irreducible rows: below the line from its first corner to the right the letters of Bottom, above it those of Top, from the right to the left.
func (b *body) suspension() api.Surface {
	n := len(b.lengths)
	edges, partners := make([]api.Vec, 2*n), make([]api.Slot, 2*n)
	for i, c := range b.rows.Bottom {
		j := slices.Index(b.rows.Top, c)
		above := across(j, n)
		edges[i] = api.Vec{X: b.lengths[c], Y: field.Whole(i - j)}
		edges[above] = b.Times(field.Whole(-1), edges[i])
		partners[i], partners[above] = api.Slot{Edge: above}, api.Slot{Edge: i}
	}
	return api.Surface{Field: b.Field(), Faces: [][]api.Vec{edges}, Glue: [][]api.Slot{partners}}
}

// across returns the edge of a suspension with n letters that has the letter number i of Top, and also the number in Top of the letter that edge i has.
func across(i, n int) int { return 2*n - 1 - i }

// read returns the exchange of which a surface with one face of 2 n edges is a suspension.
func read(s api.Surface, n int) (api.Exchange, api.Errno) {
	r, e := field.Open(s.Field)
	if e != api.OK {
		return api.Exchange{}, e
	}
	x := api.Exchange{Field: r.Field(), Lengths: make([]api.Num, n)}
	for i, v := range s.Faces[0][:n] {
		partner := s.Glue[0][i].Edge
		if r.Sign(v.X) <= 0 || partner < n {
			return api.Exchange{}, api.ErrForm
		}
		c := across(partner, n)
		x.Top, x.Bottom = append(x.Top, i), append(x.Bottom, c)
		x.Lengths[c] = r.Normal(v.X)
	}
	return x, api.OK
}
