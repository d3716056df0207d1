package archive

import (
	"strconv"
	"strings"

	"flatland/api"
)

// The answers that are not made of numbers.
const (
	addedAnswer   = "added"
	knownAnswer   = "known"
	trueAnswer    = "true"
	noneAnswer    = "none"
	unknownAnswer = "?"
)

// Console answers lines.
type Console struct {
	archive *Archive
	survey  api.Survey // with 0 squares as long as there is none
}

// NewConsole returns a console with an empty archive.
func NewConsole() *Console { return &Console{archive: New()} }

// Archive returns the archive of a console.
func (c *Console) Archive() *Archive {
	if c == nil {
		return nil
	}
	return c.archive
}

// Do answers a line.
func (c *Console) Do(line string) string {
	if c == nil {
		return unknownAnswer
	}
	if answer, ok := questions()[line]; ok {
		return answer(c)
	}
	word, rest, _ := strings.Cut(line, " ")
	if do, ok := commands()[word]; ok {
		return do(c, rest)
	}
	return unknownAnswer
}

// questions returns the commands that are a line by themselves.
func questions() map[string]func(c *Console) string {
	return map[string]func(c *Console) string{
		"results": (*Console).results,
		"journal": (*Console).journal,
	}
}

// commands returns the commands with something behind a blank; none of them takes the empty text for it.
func commands() map[string]func(c *Console, rest string) string {
	return map[string]func(c *Console, rest string) string{
		"add":     (*Console).add,
		"verify":  (*Console).verify,
		"named":   (*Console).named,
		"begin":   (*Console).begin,
		"advance": (*Console).advance,
	}
}

func (c *Console) results() string { return strconv.Itoa(len(c.archive.Results())) }

func (c *Console) journal() string { return strconv.Itoa(len(c.archive.Journal())) }

func (c *Console) add(text string) string {
	r, e := Parse(text)
	if e != api.OK {
		return unknownAnswer
	}
	added, e := c.archive.Add(r)
	switch {
	case e != api.OK:
		return refusal(e)
	case added:
		return addedAnswer
	}
	return knownAnswer
}

func (c *Console) verify(text string) string {
	r, e := Parse(text)
	if e != api.OK {
		return unknownAnswer
	}
	if e := Verify(r.Claim); e != api.OK {
		return refusal(e)
	}
	return trueAnswer
}

func (c *Console) named(name string) string {
	if !isName(name) {
		return unknownAnswer
	}
	return strconv.Itoa(len(c.archive.Named(name)))
}

func (c *Console) begin(number string) string {
	n, ok := decimal(number, 0, maxNumber)
	if !ok {
		return unknownAnswer
	}
	s, e := Begin(n)
	if e != api.OK {
		return refusal(e)
	}
	c.survey = s
	return progress(s)
}

func (c *Console) advance(number string) string {
	n, ok := decimal(number, 0, maxNumber)
	switch {
	case !ok:
		return unknownAnswer
	case c.survey.Squares == 0:
		return noneAnswer
	}
	s, e := Advance(c.survey, n)
	if e != api.OK {
		return refusal(e)
	}
	c.survey = s
	return progress(s) + ": " + strconv.Itoa(len(s.Found))
}

// progress tells how many of its pairs a survey has looked at.
func progress(s api.Survey) string {
	return strconv.Itoa(s.Next) + " of " + strconv.Itoa(pairCount(s.Squares))
}

// refusal tells an error.
func refusal(e api.Errno) string { return "error " + strconv.Itoa(int(e)) }
