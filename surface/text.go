package surface

import (
	"strconv"
	"strings"

	"flatland/api"
	"flatland/field"
)

// The words with which the lines of a surface begin.
const (
	surfaceWord = "surface"
	faceWord    = "face"
	glueWord    = "glue"
)

// maxDigits is the number of digits that the number of a face or an edge may have in a text.
const maxDigits = 8

// Print writes a surface.
func Print(s api.Surface) (string, api.Errno) {
	b, e := open(s)
	if e != api.OK {
		return "", e
	}
	name, e := field.FormatField(s.Field)
	if e != api.OK {
		return "", e
	}
	var text strings.Builder
	text.WriteString(surfaceWord + " " + name + "\n")
	for _, edges := range b.faces {
		text.WriteString(faceWord)
		for _, v := range edges {
			text.WriteString(" " + b.Format(v.X) + " " + b.Format(v.Y))
		}
		text.WriteString("\n")
	}
	for _, partners := range b.glue {
		text.WriteString(glueWord)
		for _, to := range partners {
			text.WriteString(" " + strconv.Itoa(to.Face) + " " + strconv.Itoa(to.Edge))
		}
		text.WriteString("\n")
	}
	return text.String(), api.OK
}

// Parse reads a surface; beside an error it returns the number of the line that is wrong, or 0.
func Parse(text string) (api.Surface, int, api.Errno) {
	if len(text) > api.MaxText {
		return api.Surface{}, 0, api.ErrLarge
	}
	s, line := parse(text)
	if line > 0 {
		return api.Surface{}, line, api.ErrSyntax
	}
	if e := Check(s); e != api.OK {
		return api.Surface{}, 0, e
	}
	return s, 0, api.OK
}

// parse reads a surface that is not checked, or returns the number of the first line that has not the form.
func parse(text string) (api.Surface, int) {
	lines := strings.SplitAfter(text, "\n")
	name, isSurface := strings.CutPrefix(lines[0], surfaceWord+" ")
	f, e := field.ParseField(strings.TrimSuffix(name, "\n"))
	if e != api.OK || !isSurface || len(lines) < 2 {
		return api.Surface{}, 1
	}
	r, _ := field.Open(f)
	s := api.Surface{Field: f}
	// Behind the last line feed there is an empty text that is no line.
	for i, line := range lines[1:] {
		if line == "" {
			break
		}
		if !parseLine(r, &s, line) {
			return api.Surface{}, i + 2
		}
	}
	return s, 0
}

// parseLine reads a face line or a glue line, and reports whether it has the form that is required behind the lines before.
func parseLine(r *field.Real, s *api.Surface, line string) bool {
	line, ok := strings.CutSuffix(line, "\n")
	words := strings.Split(line, " ")
	numbers := words[1:]
	if !ok || len(numbers)%2 != 0 {
		return false
	}
	switch {
	case words[0] == faceWord && len(s.Glue) == 0:
		edges, ok := parsePairs(numbers, r.Parse, func(x, y api.Num) api.Vec { return api.Vec{X: x, Y: y} })
		s.Faces = append(s.Faces, edges)
		return ok
	case words[0] == glueWord:
		partners, ok := parsePairs(numbers, parseNumber, func(f, e int) api.Slot { return api.Slot{Face: f, Edge: e} })
		s.Glue = append(s.Glue, partners)
		return ok
	}
	return false
}

// parsePairs reads an even number of words, and makes something of each pair.
func parsePairs[N, P any](words []string, read func(string) (N, api.Errno), pair func(x, y N) P) ([]P, bool) {
	var list []P
	for i := 0; i < len(words); i += 2 {
		x, e := read(words[i])
		y, g := read(words[i+1])
		if e != api.OK || g != api.OK {
			return nil, false
		}
		list = append(list, pair(x, y))
	}
	return list, true
}

// parseNumber reads the number of a face or an edge.
func parseNumber(word string) (int, api.Errno) {
	if len(strings.TrimPrefix(word, "-")) > maxDigits {
		return 0, api.ErrSyntax
	}
	x, e := field.Parse(word)
	n, _ := field.Small(x)
	return n, e
}
