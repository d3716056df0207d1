package cylinder

import (
	"iter"

	"flatland/api"
)

// piece is a part of a straight line within a face, in the direction ahead.
type piece struct {
	face     int
	height   api.Num
	from, to api.Num  // its X in the face
	offset   api.Num  // what its X has to be added to count from the beginning of the line
	end      api.Slot // the corner at which the line ends, or the edge that it crosses
	ends     bool
}

// line yields the pieces of the straight line from a place within a face or on its border, which goes on within the face. It ends at a corner, or before it crosses more than MaxCross edges.
func (b *body) line(face int, at api.Vec) iter.Seq[piece] {
	return func(yield func(p piece) bool) {
		p := piece{face: face, height: at.Y, from: at.X, offset: b.minus(at.X)}
		entry := -1
		for range api.MaxCross + 1 {
			b.reach(&p, entry)
			if !yield(p) || p.ends {
				return
			}
			over, to := b.corner(p.end).over, b.partner(p.end)
			p = piece{face: to.Face, height: b.Sub(p.height, over.Y), from: b.Sub(p.to, over.X), offset: b.Add(p.offset, over.X)}
			entry = to.Edge
		}
	}
}

// reach finds where a piece ends that comes in at the edge entry (-1 if it begins in the face): the first place where the line meets a corner, or the border changes its side.
func (b *body) reach(p *piece, entry int) {
	list := b.faces[p.face]
	side := make([]int, len(list))
	for i, c := range list {
		side[i] = b.Cmp(c.at.Y, p.height)
	}
	found := false
	for i, c := range list {
		next := (i + 1) % len(list)
		x := c.at.X
		if side[i] != 0 {
			if i == entry || side[i]*side[next] >= 0 {
				continue
			}
			x = b.level(c.at, list[next].at, p.height)
		}
		if b.Cmp(x, p.from) > 0 && (!found || b.Cmp(x, p.to) < 0) {
			p.to, p.end, p.ends, found = x, api.Slot{Face: p.face, Edge: i}, side[i] == 0, true
		}
	}
}

// leave yields the pieces of the straight line from a corner whose sector contains the direction ahead.
func (b *body) leave(c api.Slot) iter.Seq[piece] {
	x := b.corner(c)
	if x.edge != ahead {
		return b.line(c.Face, x.at)
	}
	return func(yield func(p piece) bool) {
		end := b.corner(b.along(c, 1)).at
		yield(piece{face: c.Face, height: end.Y, from: x.at.X, to: end.X, offset: b.minus(x.at.X), end: b.partner(c), ends: true})
	}
}

// checkCount returns an error if there are too many rays.
func (b *body) checkCount() api.Errno {
	if len(b.rays) > api.MaxSaddles {
		return api.ErrLarge
	}
	return api.OK
}

// checkCorner returns an error if no ray begins at a corner.
func (b *body) checkCorner(c api.Slot) api.Errno {
	switch {
	case !b.has(c):
		return api.ErrMissing
	case !b.contains(c, ahead):
		return api.ErrForm
	}
	return api.OK
}

// checkBound returns an error if a bound is negative.
func (b *body) checkBound(bound api.Num) api.Errno {
	if b.Sign(bound) < 0 {
		return api.ErrRange
	}
	return api.OK
}

// trace returns the ray from a corner, traced up to a bound.
func (b *body) trace(c api.Slot, bound api.Num) (api.Ray, api.Errno) {
	for p := range b.leave(c) {
		t := b.Add(p.to, p.offset)
		switch {
		case b.Cmp(t, bound) > 0:
			return api.Ray{From: c, Open: true}, api.OK
		case p.ends:
			return api.Ray{From: c, To: p.end, T: t}, api.OK
		}
	}
	return api.Ray{}, api.ErrLarge
}

// traces returns the traces of all rays up to a bound.
func (b *body) traces(bound api.Num) ([]api.Ray, api.Errno) {
	var list []api.Ray
	for _, c := range b.rays {
		x, e := b.trace(c, bound)
		if e != api.OK {
			return nil, e
		}
		list = append(list, x)
	}
	return list, api.OK
}

// checkTraces accepts the traces of all rays.
func (b *body) checkTraces(l []api.Ray) api.Errno {
	if len(l) != len(b.rays) {
		return api.ErrProof
	}
	for i, x := range l {
		if e := b.checkTrace(b.rays[i], x); e != api.OK {
			return e
		}
	}
	return api.OK
}

// checkTrace accepts a trace of the ray from a corner.
func (b *body) checkTrace(c api.Slot, x api.Ray) api.Errno {
	sign := b.Sign(x.T)
	switch {
	case x.From != c:
		return api.ErrProof
	case x.Open && x.To == (api.Slot{}) && sign == 0:
		return api.OK
	case x.Open || sign <= 0:
		return api.ErrProof
	}
	y, e := b.trace(c, x.T)
	if e == api.OK && (y.Open || y.To != x.To || b.Cmp(y.T, x.T) != 0) {
		e = api.ErrProof
	}
	return e
}
