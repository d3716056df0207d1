package archive_test

import (
	"fmt"
	"math/rand"
	"strconv"
	"strings"
	"testing"

	"flatland/api"
	"flatland/archive"
)

// says asks a console line by line.
func says(t *testing.T, c *archive.Console, lines ...string) {
	t.Helper()
	for i := 0; i < len(lines); i += 2 {
		want(t, fmt.Sprintf("Do(%.80q)", lines[i]), c.Do(lines[i]), lines[i+1])
	}
}

// P10.6: what a console answers, one line after another.
func TestConsole(t *testing.T) {
	c := archive.NewConsole()
	wrong := strings.TrimSuffix(ellText, "0 1 2") + "1 0 2"
	other := strings.Replace(ellText, "ann 7", "bob 8", 1)
	length := len(lineOf(ellText))
	says(t, c,
		"results", "0", "journal", "0", "named ell", "0",
		"add "+ellText, "added", "add "+ellText, "known", "results", "1", "journal", strconv.Itoa(length),
		"verify "+ellText, "true", "verify "+wrong, "error 18", "add "+wrong, "error 18", "results", "1",
		"named ell", "1", "named Ell", "0", "add "+other, "added", "named ell", "2", "journal", strconv.Itoa(length+len(lineOf(other))),
		"verify result a b 0 3 0 0 0 0 0", "error 10", "add result a b 0 3 0 0 0 0 0", "error 10", "results", "2", "named a", "0",
		"verify result a b 0 9 1 3 2 3 0 1 1", "error 18", "verify result a b 0 9 1 3 1 3 1 1", "true", "results", "2",
	)
	wantResults(t, "the archive of a console", c.Archive(), []api.Result{ellResult(), {Name: "ell", Author: "bob", Number: 8, Claim: ellResult().Claim}})
}

// P10.6: the archive of a console is the one in which it looks.
func TestConsoleArchive(t *testing.T) {
	c := archive.NewConsole()
	added, e := c.Archive().Add(ellResult())
	wantAlike(t, "Add", added, e, true, api.OK)
	says(t, c, "results", "1", "add "+ellText, "known")
	want(t, "another console has another archive", len(archive.NewConsole().Archive().Results()), 0)
	for _, r := range numbered(1000, 1099) {
		says(t, c, "add "+textOf(r), "added")
	}
	says(t, c, "results", "100", "add "+textOf(numbered(5, 6)[0]), "error 8", "add "+ellText, "known", "named ell", "100", "journal", strconv.Itoa(len(c.Archive().Journal())))
}

// P10.6: surveys.
func TestConsoleSurvey(t *testing.T) {
	c := archive.NewConsole()
	says(t, c,
		"advance 1", "none", "advance 0", "none", "advance 200000", "none", "advance 1000000", "none", "advance 1000001", "?", "advance x", "?", "advance", "?",
		"begin 0", "error 2", "begin 6", "error 2", "begin 1000000", "error 2", "advance 1", "none",
		"begin 2", "0 of 4", "advance 0", "0 of 4: 0", "advance 1", "1 of 4: 0", "advance 2", "3 of 4: 2", "advance 100001", "error 2", "begin 6", "error 2", "begin x", "?", "advance x", "?",
		"advance 1", "4 of 4: 3", "advance 1", "4 of 4: 3", "advance 100000", "4 of 4: 3", "advance 1000000", "error 2",
		"begin 5", "0 of 14400", "advance 14399", "14399 of 14400: 97", "advance 1", "14400 of 14400: 97",
		"begin 1", "0 of 1", "advance 100000", "1 of 1: 1", "begin 3", "0 of 36", "begin 4", "0 of 576", "advance 576", "576 of 576: 26",
	)
}

// P10.6: lines that are none of those listed.
func TestConsoleUnknown(t *testing.T) {
	c := archive.NewConsole()
	says(t, c, "add "+ellText, "added", "begin 3", "0 of 36", "advance 20", "20 of 36: 5")
	long := api.Result{Name: "p", Author: "a", Claim: longPeriod(t, 10000)}
	for _, line := range []string{
		"", " ", "?", "help", "Results", "results ", " results", "results 1", "results\n", "resultsx", "journal ", "journal x", "\njournal", "journals",
		"add", "add ", "add  " + ellText, "add " + ellText + " ", "add " + ellText + "\n", "add\t" + ellText, "add x", "add" + ellText, "ADD " + ellText, " add " + ellText, "add " + textOf(long), "add " + lineOf(ellText), "add " + strings.Repeat("x", 30000),
		"add " + strings.Replace(ellText, "ell", "1ell", 1), "add " + strings.Replace(ellText, " 7 3 ", " 7 10 ", 1), "add " + strings.Replace(ellText, " 7 3 ", " 07 3 ", 1), "add " + strings.Replace(ellText, " 7 3 ", " 1000001 3 ", 1), "add " + ellText[:len(ellText)-2],
		"verify", "verify ", "verify x", "verify " + ellText + " 0", "verify  " + ellText, "verify " + textOf(long), "verify " + strings.Replace(ellText, "ann", "a_n", 1),
		"named", "named ", "named  ell", "named ell ", "named 1ell", "named abcdefghijklm", "named e_l", "named é", "named ell ann",
		"begin", "begin ", "begin  2", "begin 2 ", "begin 02", "begin +2", "begin -1", "begin 1000001", "begin 2.0", "begin x", "begin 99999999999999999999", "begin 0x2", "begin -0", "begin 1_0",
		"advance", "advance ", "advance  1", "advance 1 ", "advance 01", "advance +1", "advance -1", "advance 1000001", "advance x", "advance 1 1", "advance 00", strings.Repeat("advance 1", 100000),
	} {
		says(t, c, line, "?")
	}
	says(t, c, "results", "1", "advance 0", "20 of 36: 5", "begin 0", "error 2", "advance 0", "20 of 36: 5")
}

// P10.6: nil consoles.
func TestNilConsole(t *testing.T) {
	var c *archive.Console
	want(t, "Archive", c.Archive() == nil, true)
	says(t, c, "results", "?", "add "+ellText, "?", "begin 2", "?", "advance 1", "?", "", "?", "journal", "?")
}

// P10.6: a console does what the functions do, in any order of the lines.
func TestConsoleRandom(t *testing.T) {
	r := rand.New(rand.NewSource(8))
	l := results(t)
	for _, change := range numbered(50, 60) {
		change.Claim.List = []int{r.Intn(3), r.Intn(3), r.Intn(3)}
		l = append(l, change)
	}
	for range 20 {
		c, a := archive.NewConsole(), archive.New()
		var s api.Survey
		for range 60 {
			x, n := l[r.Intn(len(l))], r.Intn(8)
			answer := func(right string, e api.Errno) string {
				if e != api.OK {
					return fmt.Sprintf("error %d", e)
				}
				return right
			}
			switch r.Intn(7) {
			case 0, 1:
				added, e := a.Add(x)
				says(t, c, "add "+textOf(x), answer(map[bool]string{true: "added", false: "known"}[added], e))
			case 2:
				says(t, c, "verify "+textOf(x), answer("true", archive.Verify(x.Claim)))
			case 3:
				says(t, c, "results", fmt.Sprint(len(a.Results())), "journal", fmt.Sprint(len(a.Journal())))
			case 4:
				says(t, c, "named "+x.Name, fmt.Sprint(len(a.Named(x.Name))))
			case 5:
				next, e := archive.Begin(n)
				if e == api.OK {
					s = next
				}
				says(t, c, fmt.Sprintf("begin %d", n), answer(fmt.Sprintf("0 of %d", pairCounts[n%6]), e))
			case 6:
				n *= r.Intn(300)
				next, e := archive.Advance(s, n)
				if s.Squares == 0 {
					says(t, c, fmt.Sprintf("advance %d", n), "none")
					continue
				}
				s = next
				says(t, c, fmt.Sprintf("advance %d", n), answer(fmt.Sprintf("%d of %d: %d", s.Next, pairCounts[s.Squares], len(s.Found)), e))
			}
		}
		want(t, "the journal", c.Archive().Journal(), a.Journal())
	}
}
