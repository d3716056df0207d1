package archive

import (
	"strings"

	"flatland/api"
)

// The words with which texts begin.
const (
	resultWord = "result"
	surveyWord = "survey"
)

// Format writes a result.
func Format(r api.Result) (string, api.Errno) { return format(r, (*tape).result) }

// Parse reads a result.
func Parse(s string) (api.Result, api.Errno) { return parse(s, (*tape).result) }

// FormatSurvey writes a survey.
func FormatSurvey(s api.Survey) (string, api.Errno) { return format(s, (*tape).survey) }

// ParseSurvey reads a survey.
func ParseSurvey(s string) (api.Survey, api.Errno) { return parse(s, (*tape).survey) }

// format writes a value.
func format[T any](x T, through func(t *tape, x *T)) (string, api.Errno) {
	var t tape
	through(&t, &x)
	switch {
	case t.e != api.OK:
		return "", t.e
	case len(t.written) > api.MaxText:
		return "", api.ErrLarge
	}
	return string(t.written), api.OK
}

// parse reads a value.
func parse[T any](s string, through func(t *tape, x *T)) (T, api.Errno) {
	var x, none T
	if len(s) > api.MaxText {
		return none, api.ErrLarge
	}
	t := tape{reading: true, words: strings.Split(s, " ")}
	through(&t, &x)
	if t.e != api.OK || len(t.words) > 0 {
		return none, api.ErrSyntax
	}
	return x, api.OK
}

func (t *tape) result(r *api.Result) {
	t.title(resultWord)
	t.name(&r.Name)
	t.name(&r.Author)
	t.limited(&r.Number, 0, maxNumber)
	t.limited(&r.Claim.Kind, 0, lastKind)
	t.claim(&r.Claim)
}

// claim goes through the fields of the kind of a claim.
func (t *tape) claim(c *api.Claim) {
	switch c.Kind {
	case api.ClaimPeriod:
		t.number(&c.Count)
		t.table(&c.Table)
		t.state(&c.State)
	case api.ClaimMatch:
		t.surface(&c.First)
		t.surface(&c.Second)
		t.slots(&c.Slots)
	case api.ClaimTraces:
		t.surface(&c.First)
		t.vec(&c.Dir)
		list(t, &c.Rays, t.ray)
	case api.ClaimIsomorphism, api.ClaimCovering:
		t.origami(&c.From)
		t.origami(&c.To)
		t.numbers(&c.List)
	case api.ClaimWord:
		t.origami(&c.From)
		t.origami(&c.To)
		t.text(&c.Word)
		t.numbers(&c.List)
	case api.ClaimOrbit:
		t.orbit(&c.Orbit)
	case api.ClaimBasis:
		t.origami(&c.From)
		t.lists(&c.Lists)
	case api.ClaimPath:
		t.rows(&c.Rows)
		t.numbers(&c.List)
		t.lists(&c.Lists)
	case api.ClaimWeight:
		t.numbers(&c.List)
		t.rate(&c.Rate)
	}
}

func (t *tape) survey(s *api.Survey) {
	t.title(surveyWord)
	t.number(&s.Squares)
	t.number(&s.Next)
	if e := surveyError(*s); e != api.OK {
		t.fail(e)
	}
	list(t, &s.Found, t.origami)
}
