package archive_test

import (
	"fmt"
	"math/rand"
	"slices"
	"strings"
	"testing"

	"flatland/api"
	"flatland/archive"
)

// P10.3: an archive that is new has nothing in it.
func TestNew(t *testing.T) {
	a := archive.New()
	want(t, "the results of a new archive", len(a.Results()), 0)
	want(t, "the named results of a new archive", len(a.Named("ell")), 0)
	want(t, "the kinds of a new archive", fmt.Sprint(a.Kinds()), "[0 0 0 0 0 0 0 0 0 0]")
	want(t, "the journal of a new archive", a.Journal(), "")
	want(t, "two new archives are one", a == archive.New(), false)
}

// P10.3: a result is added once.
func TestAdd(t *testing.T) {
	a := archive.New()
	for _, first := range []bool{true, false, false} {
		added, e := a.Add(ellResult())
		wantAlike(t, "Add", added, e, first, api.OK)
		wantResults(t, "Results", a, []api.Result{ellResult()})
	}
	other := ellResult()
	other.Claim.Word, other.Claim.Count = "no field of its kind", 5
	added, e := a.Add(other)
	wantAlike(t, "Add of the same with other fields", added, e, false, api.OK)
	for what, change := range map[string]func(r *api.Result){
		"another name":   func(r *api.Result) { r.Name = "Ell" },
		"another author": func(r *api.Result) { r.Author = "ann2" },
		"another number": func(r *api.Result) { r.Number = 8 },
		"another kind":   func(r *api.Result) { r.Claim.Kind = 4 },
	} {
		r := ellResult()
		change(&r)
		added, e := a.Add(r)
		wantAlike(t, "Add with "+what, added, e, true, api.OK)
	}
	want(t, "the number of results", len(a.Results()), 5)
}

// P10.3: what differs in its text is another result, also if its numbers have the same values.
func TestAddByText(t *testing.T) {
	r := api.Result{Name: "p", Author: "a", Claim: truths(t)["period"]}
	same := deep(r)
	same.Claim.State.T = api.Num{C: []api.Int{{2, 0}}, D: []int{4}}
	a := filled(t, r, same)
	wantResults(t, "Results", a, []api.Result{r, same})
}

// P10.3: what CheckResult refuses is not added, with its error, and changes nothing.
func TestAddErrors(t *testing.T) {
	a := filled(t, ellResult())
	journal := a.Journal()
	for what, x := range map[string]struct {
		change func(r *api.Result)
		e      api.Errno
	}{
		"no name":     {func(r *api.Result) { r.Name, r.Number = "", -1 }, api.ErrName},
		"no author":   {func(r *api.Result) { r.Author = "an author" }, api.ErrName},
		"no number":   {func(r *api.Result) { r.Number, r.Claim.List = 1000001, nil }, api.ErrRange},
		"no kind":     {func(r *api.Result) { r.Claim.Kind = 10 }, api.ErrRange},
		"another row": {func(r *api.Result) { r.Claim.List = []int{1, 0, 2} }, api.ErrProof},
		"no row":      {func(r *api.Result) { r.Claim.List = nil }, api.ErrShape},
		"a long text": {func(r *api.Result) { r.Claim = longPeriod(t, 10000) }, api.ErrLarge},
	} {
		r := ellResult()
		x.change(&r)
		added, e := a.Add(r)
		wantAlike(t, "Add with "+what, added, e, false, x.e)
		want(t, "CheckResult with "+what, archive.CheckResult(r), x.e)
		want(t, "the journal behind it", a.Journal(), journal)
	}
}

// P10.3: results ascend by their texts, by bytes; they have the fields of their kinds alone.
func TestResults(t *testing.T) {
	l := results(t)
	for _, change := range []struct {
		name, author string
		number       int
	}{{"r0", "Ann", 5}, {"R0", "ann", 12}, {"r0", "ann", 12}, {"r0", "ann", 9}, {"r0-", "ann", 9}, {"r00", "ann", 9}, {"r", "ann", 9}} {
		r := ellResult()
		r.Name, r.Author, r.Number = change.name, change.author, change.number
		r.Claim.Word, r.Claim.Rate.Num = "x", []int{1}
		l = append(l, r)
	}
	rand.New(rand.NewSource(3)).Shuffle(len(l), func(i, j int) { l[i], l[j] = l[j], l[i] })
	a := filled(t, l...)
	var right []api.Result
	for _, text := range sortedTexts(l) {
		r, ok := resultOf(text)
		want(t, "a text of a result", ok, true)
		right = append(right, r)
	}
	wantAlike(t, "Results", a.Results(), api.OK, right, api.OK)
	var kinds [10]int
	for _, name := range []string{"r0", "r1", "R0", "r", "r0-", "r00", "r9", "", "no name"} {
		var named []api.Result
		for _, r := range right {
			if r.Name == name {
				named = append(named, r)
			}
		}
		wantAlike(t, "Named "+name, a.Named(name), api.OK, named, api.OK)
	}
	for _, r := range right {
		kinds[r.Claim.Kind]++
	}
	want(t, "Kinds", fmt.Sprint(a.Kinds()), fmt.Sprint(kinds))
	var journal strings.Builder
	for _, r := range l {
		journal.WriteString(lineOf(textOf(r)))
	}
	want(t, "Journal", a.Journal(), journal.String())
}

// numbered returns results that differ in their numbers alone.
func numbered(from, end int) []api.Result {
	var l []api.Result
	for i := from; i < end; i++ {
		r := ellResult()
		r.Number = i
		l = append(l, r)
	}
	return l
}

// P10.3: an archive has 100 results at most.
func TestFull(t *testing.T) {
	l := numbered(0, 100)
	a := filled(t, l...)
	added, e := a.Add(numbered(100, 101)[0])
	wantAlike(t, "Add of the result 101", added, e, false, api.ErrLarge)
	added, e = a.Add(l[50])
	wantAlike(t, "Add of a known one", added, e, false, api.OK)
	wrong := numbered(101, 102)[0]
	wrong.Claim.List = []int{1, 0, 2}
	added, e = a.Add(wrong)
	wantAlike(t, "Add of one that is not true", added, e, false, api.ErrProof)
	wantResults(t, "a full archive", a, l)
	want(t, "Kinds", fmt.Sprint(a.Kinds()), "[0 0 0 100 0 0 0 0 0 0]")
	b, n := archive.Recover(a.Journal())
	want(t, "the bytes of its journal", n, len(a.Journal()))
	wantResults(t, "a full archive recovered", b, l)
	more := lineOf(textOf(numbered(100, 101)[0]))
	b, n = archive.Recover(a.Journal() + more + more)
	want(t, "the bytes of a journal with too many results", n, len(a.Journal()))
	wantResults(t, "the first 100 of a journal", b, l)
}

// P10.3: nil archives.
func TestNilArchive(t *testing.T) {
	var a *archive.Archive
	added, e := a.Add(ellResult())
	wantAlike(t, "Add", added, e, false, api.ErrNil)
	added, e = a.Add(api.Result{})
	wantAlike(t, "Add of nothing", added, e, false, api.ErrNil)
	want(t, "Results", len(a.Results()), 0)
	want(t, "Named", len(a.Named("ell")), 0)
	want(t, "Kinds", len(a.Kinds()), 0)
	want(t, "Journal", a.Journal(), "")
	for _, both := range [][2]*archive.Archive{{nil, nil}, {archive.New(), nil}, {nil, archive.New()}, {nil, filled(t, numbered(0, 100)...)}} {
		m, e := archive.Merge(both[0], both[1])
		want(t, "Merge of nil", m == nil, true)
		want(t, "the error of Merge of nil", e, api.ErrNil)
	}
}

// lines returns the whole lines with which a text begins.
func lines(text string) []string {
	l := strings.SplitAfter(text, "\n")
	return l[:len(l)-1]
}

// P10.3: the lines of a journal, with their checksums.
func TestJournal(t *testing.T) {
	want(t, "the checksum of the text a", strings.HasPrefix(lineOf("a"), "a #252\n"), true)
	a := filled(t, ellResult())
	want(t, "Journal", a.Journal(), lineOf(ellText))
	b, n := archive.Recover(lineOf(ellText))
	want(t, "the bytes", n, len(a.Journal()))
	wantResults(t, "Recover", b, []api.Result{ellResult()})
}

// P10.3, P10.7: of a journal that is cut anywhere the whole lines are recovered.
func TestRecoverCut(t *testing.T) {
	l := results(t)
	journal := filled(t, l...).Journal()
	ends := []int{0}
	for i, c := range journal {
		if c == '\n' {
			ends = append(ends, i+1)
		}
	}
	at := 0
	for cut := 0; cut <= len(journal); cut++ {
		if at+1 < len(ends) && ends[at+1] <= cut {
			at++
		} else if cut > 300 && cut%7 != 0 && cut+3 < len(journal) {
			continue // verifying takes its time
		}
		a, n := archive.Recover(journal[:cut])
		want(t, fmt.Sprintf("the bytes of a journal cut at %d", cut), n, ends[at])
		want(t, fmt.Sprintf("the journal cut at %d", cut), a.Journal(), journal[:ends[at]])
	}
	a, _ := archive.Recover(journal)
	wantResults(t, "the whole journal", a, l)
}

// P10.3: a changed byte ends a journal before its line.
func TestRecoverChanged(t *testing.T) {
	l := []api.Result{ellResult(), {Name: "w", Author: "b", Number: 3, Claim: truths(t)["word"]}, {Name: "c", Author: "bob", Number: 0, Claim: truths(t)["covering"]}, {Name: "w", Author: "b-2", Number: 12, Claim: truths(t)["weight"]}}
	journal := filled(t, l...).Journal()
	begin := 0
	for i := range journal {
		for _, b := range []byte("0 1#9-\n+a\x00") {
			if journal[i] == b {
				continue
			}
			other := []byte(journal)
			other[i] = b
			a, n := archive.Recover(string(other))
			want(t, fmt.Sprintf("the bytes with %q at %d", b, i), n, begin)
			want(t, fmt.Sprintf("the journal with %q at %d", b, i), a.Journal(), journal[:begin])
		}
		if journal[i] == '\n' {
			begin = i + 1
		}
	}
}

// P10.3: lines that are none, also with the right checksum, and such whose results are not accepted as new.
func TestRecoverWrong(t *testing.T) {
	good := lineOf(textOf(numbered(1, 2)[0]))
	wrong := ellResult()
	wrong.Claim.List = []int{1, 0, 2}
	longName := ellResult()
	longName.Name = "abcdefghijklm"
	noKind := strings.Replace(ellText, " 7 3 ", " 7 10 ", 1)
	long := api.Result{Name: "p", Author: "a", Claim: longPeriod(t, 10000)}
	sum := good[strings.Index(good, "#")+1 : len(good)-1]
	for what, line := range map[string]string{
		"nothing":                 "",
		"an empty line":           "\n",
		"a line twice":            good,
		"one that is not true":    lineOf(textOf(wrong)),
		"a long name":             lineOf(textOf(longName)),
		"no kind":                 lineOf(noKind),
		"a long text":             lineOf(textOf(long)),
		"a text of no result":     lineOf("a"),
		"the empty text":          lineOf(""),
		"two blanks":              lineOf(strings.Replace(ellText, " ", "  ", 1)),
		"a blank at the end":      lineOf(ellText + " "),
		"a blank at the front":    lineOf(" " + ellText),
		"no checksum":             ellText + "\n",
		"an empty checksum":       ellText + " #\n",
		"a sum with a zero":       strings.Replace(lineOf(ellText), "#", "#0", 1),
		"a sum with a plus":       strings.Replace(lineOf(ellText), "#", "#+", 1),
		"another sum":             ellText + " #1\n",
		"the sum of another line": ellText + " #" + sum + "\n",
		"two sums":                strings.Replace(lineOf(ellText), "\n", strings.TrimPrefix(lineOf(ellText), ellText), 1),
		"a blank behind the sum":  strings.Replace(lineOf(ellText), "\n", " \n", 1),
		"a return":                strings.Replace(lineOf(ellText), "\n", "\r\n", 1),
		"no line feed":            strings.TrimSuffix(lineOf(ellText), "\n"),
		"a sum modulo less":       ellText + " #" + strings.Repeat("9", 30) + "\n",
	} {
		a, n := archive.Recover(good + line + lineOf(ellText))
		right := []api.Result{numbered(1, 2)[0]}
		if what == "nothing" {
			right = append(right, ellResult())
			want(t, "the bytes of two lines", n, len(good+lineOf(ellText)))
		} else {
			want(t, "the bytes before "+what, n, len(good))
		}
		wantResults(t, "the results before "+what, a, right)
		a, n = archive.Recover(line)
		if what != "a line twice" {
			want(t, "the bytes of "+what, n, 0)
			wantResults(t, "the results of "+what, a, nil)
		}
	}
	a, n := archive.Recover(strings.Repeat("x", 1000000))
	want(t, "the bytes of a long text without lines", n, 0)
	added, e := a.Add(ellResult())
	wantAlike(t, "Add to what was recovered", added, e, true, api.OK)
}

// P10.3: an archive goes on with what was recovered.
func TestRecoverGoesOn(t *testing.T) {
	l := results(t)
	a := filled(t, l[:5]...)
	b, _ := archive.Recover(a.Journal())
	for _, r := range l {
		added, e := b.Add(r)
		wantAlike(t, "Add to what was recovered", added, e, !slices.Contains(sortedTexts(l[:5]), textOf(r)), api.OK)
	}
	want(t, "the journal", b.Journal(), filled(t, l...).Journal())
}

// P10.3: merged archives have the results of the first one, and then the others of the second one.
func TestMerge(t *testing.T) {
	l := results(t)
	a, b := filled(t, l[3], l[1], l[5], l[0]), filled(t, l[7], l[0], l[6], l[3], l[2])
	before := a.Journal() + b.Journal()
	m, e := archive.Merge(a, b)
	want(t, "Merge", e, api.OK)
	want(t, "the merged journal", m.Journal(), filled(t, l[3], l[1], l[5], l[0], l[7], l[6], l[2]).Journal())
	want(t, "the journals behind Merge", a.Journal()+b.Journal(), before)
	self, e := archive.Merge(a, a)
	want(t, "Merge with itself", e, api.OK)
	want(t, "the journal merged with itself", self.Journal(), a.Journal())
	want(t, "merged with itself it is another archive", self == a, false)
	empty, e := archive.Merge(archive.New(), archive.New())
	want(t, "Merge of empty ones", e, api.OK)
	wantResults(t, "the merged empty ones", empty, nil)
}

// P10.3, R3: merged archives do not share what they keep.
func TestMergeApart(t *testing.T) {
	l := results(t)
	a, b := filled(t, l[:3]...), filled(t, l[3:5]...)
	m, _ := archive.Merge(a, b)
	other, _ := archive.Merge(a, archive.New())
	for i, x := range []*archive.Archive{a, b, m, other} {
		r := numbered(i, i+1)[0]
		r.Name = "own"
		added, e := x.Add(r)
		wantAlike(t, "Add", added, e, true, api.OK)
	}
	for i, x := range []*archive.Archive{a, b, m, other} {
		own := x.Named("own")
		want(t, "the number of own results", len(own), 1)
		want(t, "the own result", own[0].Number, i)
		want(t, "the number of all", len(x.Results()), []int{4, 3, 6, 4}[i])
	}
}

// P10.3: merging at the limit.
func TestMergeLarge(t *testing.T) {
	for _, x := range []struct {
		a, b, c, d int
		e          api.Errno
	}{{0, 100, 0, 100, api.OK}, {0, 60, 40, 100, api.OK}, {0, 60, 60, 100, api.OK}, {0, 60, 60, 101, api.ErrLarge}, {0, 100, 99, 101, api.ErrLarge}, {0, 100, 100, 200, api.ErrLarge}} {
		a, b := filled(t, numbered(x.a, x.b)...), filled(t, numbered(x.c, x.d)...)
		m, e := archive.Merge(a, b)
		want(t, "Merge", e, x.e)
		if e == api.OK {
			wantResults(t, "the merged ones", m, numbered(x.a, max(x.b, x.d)))
		} else {
			want(t, "beside the error there is no archive", m == nil, true)
		}
	}
}

// P2, P10.7: archives merged in any order, cut at any byte and opened again contain just results that are true.
func TestMergeAnyOrder(t *testing.T) {
	r := rand.New(rand.NewSource(4))
	l := results(t)
	for range 30 {
		var archives []*archive.Archive
		in := map[string]bool{}
		for range 4 {
			a := archive.New()
			for range r.Intn(6) {
				x := l[r.Intn(len(l))]
				a.Add(x)
				in[textOf(x)] = true
			}
			archives = append(archives, a)
		}
		for range 3 {
			r.Shuffle(4, func(i, j int) { archives[i], archives[j] = archives[j], archives[i] })
			m := archive.New()
			for _, a := range slices.Concat(archives, archives[:2]) {
				m, _ = archive.Merge(m, a)
			}
			want(t, "the merged results", strings.Join(sortedTexts(m.Results()), "\n"), strings.Join(sortedNames(in), "\n"))
			journal := m.Journal()
			cut := r.Intn(len(journal) + 1)
			opened, n := archive.Recover(journal[:cut])
			want(t, "the journal that is cut", opened.Journal(), strings.Join(lines(journal[:cut]), ""))
			want(t, "its bytes", n, len(opened.Journal()))
			for _, x := range opened.Results() {
				want(t, "a claim in the archive", checked(x.Claim), api.OK)
			}
		}
	}
}
