package field

import (
	"strconv"
	"strings"

	"flatland/api"
)

// width is the number of decimal digits of an element.
const width = 8

// Format writes an integer.
func Format(x []int) string {
	x = normal(x)
	if len(x) == 0 {
		return "0"
	}
	var b strings.Builder
	if sign(x) < 0 {
		b.WriteByte('-')
		x = negative(x)
	}
	last := len(x) - 1
	b.WriteString(strconv.Itoa(x[last]))
	for i := last - 1; i >= 0; i-- {
		digits := strconv.Itoa(x[i])
		b.WriteString("00000000"[len(digits):])
		b.WriteString(digits)
	}
	return b.String()
}

// Parse reads an integer.
func Parse(s string) ([]int, api.Errno) {
	if len(s) > api.MaxDigits {
		return nil, api.ErrLarge
	}
	x, ok := parse(s)
	if !ok {
		return nil, api.ErrSyntax
	}
	return x, api.OK
}

// parse reads an integer of any length, and reports whether the text is that of one.
func parse(s string) ([]int, bool) {
	digits := strings.TrimPrefix(s, "-")
	if !isDigits(digits) || digits[0] == '0' && s != "0" {
		return nil, false
	}
	x := make([]int, 0, len(digits)/width+1)
	for end := len(digits); end > 0; end -= width {
		e, _ := strconv.Atoi(digits[max(0, end-width):end])
		x = append(x, e)
	}
	x = trim(x)
	if len(digits) < len(s) {
		x = negative(x)
	}
	return x, true
}

// isDigits reports whether a text is one or more decimal digits.
func isDigits(s string) bool {
	for i := range len(s) {
		if s[i] < '0' || s[i] > '9' {
			return false
		}
	}
	return s != ""
}

// FormatField writes a field.
func FormatField(f api.Field) (string, api.Errno) {
	if e := Check(f); e != api.OK {
		return "", e
	}
	return fieldText(f), api.OK
}

// ParseField reads a field.
func ParseField(s string) (api.Field, api.Errno) {
	words := strings.Split(s, " ")
	if len(words) != 4 {
		return api.Field{}, api.ErrSyntax
	}
	poly := strings.Split(words[0], ",")
	n := make([]int, 0, len(poly)+3)
	for _, w := range append(poly, words[1:]...) {
		i, err := strconv.Atoi(w)
		if err != nil {
			return api.Field{}, api.ErrSyntax
		}
		n = append(n, i)
	}
	d := len(poly)
	f := api.Field{Poly: n[:d:d], Lo: n[d], Hi: n[d+1], Den: n[d+2]}
	// Atoi also reads "+1" and "01": only what is written in the same way is a text.
	if Check(f) != api.OK || fieldText(f) != s {
		return api.Field{}, api.ErrSyntax
	}
	return f, api.OK
}

// fieldText returns the text of a field.
func fieldText(f api.Field) string {
	poly := make([]string, len(f.Poly))
	for i, c := range f.Poly {
		poly[i] = strconv.Itoa(c)
	}
	return strings.Join([]string{strings.Join(poly, ","), strconv.Itoa(f.Lo), strconv.Itoa(f.Hi), strconv.Itoa(f.Den)}, " ")
}

// Format writes a number.
func (r *Real) Format(x api.Num) string {
	if r == nil {
		return ""
	}
	x = r.Normal(x)
	if len(x.C) == 0 {
		return "0"
	}
	parts := make([]string, len(x.C))
	for i, c := range x.C {
		parts[i] = Format(c)
	}
	text := strings.Join(parts, ",")
	if isOne(x.D) {
		return text
	}
	return text + "/" + Format(x.D)
}

// Parse reads a number.
func (r *Real) Parse(s string) (api.Num, api.Errno) {
	if r == nil {
		return api.Num{}, api.ErrNil
	}
	if len(s) > 4*api.MaxDigits {
		return api.Num{}, api.ErrLarge
	}
	over, under, _ := strings.Cut(s, "/")
	var x api.Num
	for _, w := range strings.Split(over, ",") {
		c, _ := parse(w)
		x.C = append(x.C, c)
	}
	x.D, _ = parse(under)
	// A text is that of a number just if the number that it seems to be is written so.
	if r.Format(x) != s {
		return api.Num{}, api.ErrSyntax
	}
	return r.Normal(x), api.OK
}
