package archive

import (
	"strconv"
	"strings"

	"flatland/api"
	"flatland/billiard"
	"flatland/field"
	"flatland/origami"
)

// maxZoom is the greatest scale of a figure.
const maxZoom = 60

// The commands of a path.
const (
	moveWord   = "M"
	lineWord   = "L"
	closeWord  = "Z"
	squareWord = "h 1 v 1 h -1 Z"
)

// pen draws a path in the plane of a field.
type pen struct {
	real  *field.Real
	zoom  int
	words []string
}

// newPen returns a pen for a table that has no error.
func newPen(t api.Table, k int) (*pen, api.Errno) {
	if !within(k, 0, maxZoom) {
		return nil, api.ErrRange
	}
	r, e := field.Open(t.Field)
	return &pen{real: r, zoom: k}, e
}

// draw goes on to a point: the first one is where the path begins.
func (p *pen) draw(at api.Vec) {
	command := lineWord
	if len(p.words) == 0 {
		command = moveWord
	}
	p.words = append(p.words, command, p.coordinate(at.X), p.coordinate(at.Y))
}

func (p *pen) coordinate(x api.Num) string {
	n, _ := p.real.Scaled(x, p.zoom)
	return field.Format(n)
}

// DrawTable draws a table.
func DrawTable(t api.Table, k int) (string, api.Errno) {
	if e := billiard.Check(t); e != api.OK {
		return "", e
	}
	p, e := newPen(t, k)
	if e != api.OK {
		return "", e
	}
	for _, corner := range t.Corners {
		p.draw(corner)
	}
	return strings.Join(append(p.words, closeWord), " "), api.OK
}

// DrawTrajectory draws the trajectory of a state up to the place after n hits.
func DrawTrajectory(t api.Table, s api.State, n, k int) (string, api.Errno) {
	at, e := billiard.Place(t, s)
	if e != api.OK {
		return "", e
	}
	p, e := newPen(t, k)
	if e != api.OK {
		return "", e
	}
	states, e := billiard.Follow(t, s, n)
	if e != api.OK {
		return "", e
	}
	p.draw(at)
	for _, next := range states {
		at, _ := billiard.Place(t, next)
		p.draw(at)
	}
	return strings.Join(p.words, " "), api.OK
}

// DrawOrigami draws the rows of squares of an origami.
func DrawOrigami(o api.Origami) (string, api.Errno) {
	if e := origami.Check(o); e != api.OK {
		return "", e
	}
	rows, _ := origami.Cycles(o.Right)
	var text strings.Builder
	for i, row := range rows {
		var words []string
		for j := range row {
			words = append(words, moveWord, strconv.Itoa(j), strconv.Itoa(i), squareWord)
		}
		text.WriteString(strings.Join(words, " ") + "\n")
	}
	return text.String(), api.OK
}
