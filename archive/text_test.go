package archive_test

import (
	"fmt"
	"math/rand"
	"reflect"
	"regexp"
	"slices"
	"strconv"
	"strings"
	"testing"

	"flatland/api"
	"flatland/archive"
)

// P10.2: the example, and the claims of all kinds, against the definition.
func TestFormat(t *testing.T) {
	text, e := archive.Format(ellResult())
	wantText(t, "Format of the example", text, e, ellText, api.OK)
	claims := truths(t)
	for _, what := range sortedNames(claims) {
		r := api.Result{Name: "a-1", Author: "Zb", Number: 12, Claim: claims[what]}
		text, e := archive.Format(r)
		wantText(t, "Format of "+what, text, e, textOf(r), api.OK)
		back, e := archive.Parse(text)
		wantAlike(t, "Parse of "+what, back, e, bare(r), api.OK)
	}
}

// P10.2: texts by hand.
func TestFormatByHand(t *testing.T) {
	num := func(numbers ...int) api.Num { return api.Num{C: []api.Int{numbers}, D: []int{1}} }
	for _, x := range []struct {
		c    api.Claim
		text string
	}{
		{api.Claim{}, "0 0 0 0 0 0 0 0 0 0 0 0 0 0"},
		{api.Claim{Kind: 0, Count: -4, Table: api.Table{Field: api.Field{Poly: []int{-2, 0, 1}, Lo: 1, Hi: 2, Den: 3}, Corners: []api.Vec{{X: num(5), Y: num(6, 7)}}}, State: api.State{Side: 8, T: num(9), Dir: api.Vec{Y: num()}}},
			"0 -4 3 -2 0 1 1 2 3 1 1 1 5 1 1 1 2 6 7 1 1 8 1 1 9 1 1 0 0 1 0 1 1"},
		{api.Claim{Kind: 1, First: api.Surface{Faces: [][]api.Vec{nil, {{}}}, Glue: [][]api.Slot{{{Face: 1, Edge: 2}}, nil}}, Slots: []api.Slot{{Face: -3, Edge: 4}}},
			"1 0 0 0 0 2 0 1 0 0 0 0 2 1 1 2 0 0 0 0 0 0 0 1 -3 4"},
		{api.Claim{Kind: 2, Dir: api.Vec{X: num(1)}, Rays: []api.Ray{{From: api.Slot{Face: 1, Edge: 2}, To: api.Slot{Face: 3, Edge: 4}, T: num(5)}, {Open: true}}},
			"2 0 0 0 0 0 0 1 1 1 1 1 0 0 2 1 2 3 4 1 1 5 1 1 0 0 0 0 0 0 0 1"},
		{api.Claim{Kind: 4, From: ell(), To: one()}, "4 3 1 0 2 3 2 1 0 1 0 1 0 0"},
		{api.Claim{Kind: 5, Word: "ST\x00\xff", List: []int{7}}, "5 0 0 0 0 4 83 84 0 255 1 7"},
		{api.Claim{Kind: 6, Orbit: api.Orbit{Labels: []api.Origami{one(), {}}, S: []int{1}, T: []int{2, 3}}}, "6 2 1 0 1 0 0 0 1 1 2 2 3"},
		{api.Claim{Kind: 7, From: one(), Lists: [][]int{{1, 0}, nil, {-1}}}, "7 1 0 1 0 3 2 1 0 0 1 -1"},
		{api.Claim{Kind: 8, Rows: api.Rows{Top: []int{0, 1}, Bottom: []int{1}}, List: []int{1}, Lists: [][]int{nil}}, "8 2 0 1 1 1 1 1 1 0"},
		{api.Claim{Kind: 9, List: []int{3}, Rate: api.Rate{Num: []int{3, 0}, Den: []int{1}}}, "9 1 3 2 3 0 1 1"},
	} {
		r := api.Result{Name: "n", Author: "a", Number: 1000000, Claim: x.c}
		text, e := archive.Format(r)
		wantText(t, "Format", text, e, "result n a 1000000 "+x.text, api.OK)
		back, e := archive.Parse("result n a 1000000 " + x.text)
		wantAlike(t, "Parse of "+x.text, back, e, bare(r), api.OK)
	}
}

// P10.2: the errors of Format, the first ones first; beside them there is no text.
func TestFormatErrors(t *testing.T) {
	good := ellResult()
	for _, name := range badNames() {
		for _, r := range []api.Result{{Name: name, Author: "ann", Number: -1}, {Name: "ell", Author: name, Claim: api.Claim{Kind: 10}}} {
			text, e := archive.Format(r)
			wantText(t, fmt.Sprintf("Format with the name %.20q", name), text, e, "", api.ErrName)
		}
	}
	for what, change := range map[string]func(r *api.Result){
		"the number -1":      func(r *api.Result) { r.Number = -1 },
		"the number 1000001": func(r *api.Result) { r.Number = 1000001 },
		"the kind -1":        func(r *api.Result) { r.Claim.Kind = -1 },
		"the kind 10":        func(r *api.Result) { r.Claim.Kind = 10 },
		"the greatest kind":  func(r *api.Result) { r.Claim.Kind = most },
		"a great number":     func(r *api.Result) { r.Claim.List = []int{large + 1} },
		"a small number":     func(r *api.Result) { r.Claim.From.Up = []int{0, -large - 1} },
		"the greatest int":   func(r *api.Result) { r.Claim.To.Right = []int{most} },
		"the least int":      func(r *api.Result) { r.Claim.To.Right = []int{-most - 1} },
		"a long list, and then a great number": func(r *api.Result) {
			r.Claim.List = append(make([]int, 100000), large+1)
		},
		"a great count":   func(r *api.Result) { r.Claim = api.Claim{Count: most} },
		"a great digit":   func(r *api.Result) { r.Claim = api.Claim{Kind: 2, Dir: api.Vec{Y: api.Num{D: []int{most}}}} },
		"a great edge":    func(r *api.Result) { r.Claim = api.Claim{Kind: 1, Slots: []api.Slot{{Edge: -most}}} },
		"a great Den":     func(r *api.Result) { r.Claim = api.Claim{Kind: 9, Rate: api.Rate{Den: []int{0, -most}}} },
		"a great chain":   func(r *api.Result) { r.Claim = api.Claim{Kind: 7, Lists: [][]int{nil, {0, most}}} },
		"a great member":  func(r *api.Result) { r.Claim = api.Claim{Kind: 6, Orbit: api.Orbit{T: []int{most}}} },
		"a great letter":  func(r *api.Result) { r.Claim = api.Claim{Kind: 8, Rows: api.Rows{Bottom: []int{most}}} },
		"a great ray end": func(r *api.Result) { r.Claim = api.Claim{Kind: 2, Rays: []api.Ray{{To: api.Slot{Face: most}}}} },
	} {
		r := good
		change(&r)
		text, e := archive.Format(r)
		wantText(t, "Format with "+what, text, e, "", api.ErrRange)
	}
	r := good
	r.Claim.List = []int{large, -large, 1, 1}
	text, e := archive.Format(r)
	wantText(t, "Format of great numbers", text, e, textOf(r), api.OK)
	back, e := archive.Parse(text)
	wantAlike(t, "Parse of great numbers", back, e, r, api.OK)
}

// sized returns a result whose text has so many bytes, some thousands.
func sized(size int) api.Result {
	r := ellResult()
	r.Claim.List = nil
	missing := size - len(textOf(r)) - 3 // its length is 0, and will have 4 digits
	r.Claim.List = slices.Repeat([]int{5}, missing/2)
	r.Name += strings.Repeat("l", missing%2)
	return r
}

// P10.2: texts of exactly MaxText bytes, and longer ones.
func TestFormatLarge(t *testing.T) {
	for size := 19990; size <= 20010; size++ {
		r := sized(size)
		want(t, "the length of the text", len(textOf(r)), size)
		text, e := archive.Format(r)
		back, f := archive.Parse(textOf(r))
		if size <= 20000 {
			wantText(t, "Format of 20000 bytes", text, e, textOf(r), api.OK)
			wantAlike(t, "Parse of 20000 bytes", back, f, r, api.OK)
		} else {
			wantText(t, "Format of more bytes", text, e, "", api.ErrLarge)
			wantAlike(t, "Parse of more bytes", back, f, api.Result{}, api.ErrLarge)
		}
	}
	for _, s := range []string{strings.Repeat("x", 20001), strings.Repeat(" ", 30000), ellText + strings.Repeat(" 0", 20000)} {
		back, e := archive.Parse(s)
		wantAlike(t, "Parse of a long text", back, e, api.Result{}, api.ErrLarge)
	}
	back, e := archive.Parse(strings.Repeat("x", 20000))
	wantAlike(t, "Parse of 20000 signs", back, e, api.Result{}, api.ErrSyntax)
}

// P10.2: texts of no result.
func TestParseErrors(t *testing.T) {
	head := "result ell ann 7 "
	for _, s := range []string{
		"", " ", "result", "result ell", "result ell ann", "result ell ann 7", head, "result ell ann 7 3", "survey 1 0 0", "Result" + ellText[6:],
		" " + ellText, ellText + " ", ellText + "\n", ellText + " 0", ellText[:len(ellText)-2], strings.Replace(ellText, " ", "  ", 1), strings.Replace(ellText, " ", "\t", 1), strings.ReplaceAll(ellText, " ", ","),
		"result ell ann 07" + ellText[16:], "result ell ann +7" + ellText[16:], "result ell ann -7" + ellText[16:], "result ell ann -0" + ellText[16:], "result ell ann 7.0" + ellText[16:], "result ell ann 1000001" + ellText[16:], "result ell ann x" + ellText[16:],
		"result 1ell ann" + ellText[14:], "result ell -" + ellText[14:], "result  ann" + ellText[14:], "result abcdefghijklm ann" + ellText[14:], "result ell é" + ellText[14:], "result ell an_" + ellText[14:],
		head + "10 3 1 0 2 3 2 1 0 3 1 0 2 3 2 1 0 3 0 1 2", head + "-1 0 0 0 0 0", head + "03" + ellText[18:], head + "10", head + "-1",
		head + "3 0 0 0 0 -1", head + "3 0 0 0 0 1", head + "3 0 0 0 0 1 0 0", head + "3 0 0 0 0 1 x", head + "3 0 0 0 0 1 1_0", head + "3 0 0 0 0 1 0x1", head + "3 0 0 0 0 1 -0", head + "3 0 0 0 0 1 00",
		head + "3 0 0 0 0 1 1000000000000001", head + "3 0 0 0 0 1 -1000000000000001", head + "3 0 0 0 0 1 9223372036854775808", head + "3 0 0 0 0 1 99999999999999999999999999",
		head + "3 0 0 0 0 1000000000000000 1", head + "3 0 0 0 0 9223372036854775807 1", head + "3 9000 0 0 0 0", head + "9 1000000 1 1 1",
		head + "5 0 0 0 0 1 256 0", head + "5 0 0 0 0 1 -1 0", head + "5 0 0 0 0 2 83 0",
		head + "2 0 0 0 0 0 0 0 0 0 0 1 0 0 0 0 0 0 2", head + "2 0 0 0 0 0 0 0 0 0 0 1 0 0 0 0 0 0 -1", head + "2 0 0 0 0 0 0 0 0 0 0 1 0 0 0 0 0 0",
	} {
		back, e := archive.Parse(s)
		wantAlike(t, fmt.Sprintf("Parse of %.90q", s), back, e, api.Result{}, api.ErrSyntax)
	}
	for _, s := range []string{head + "5 0 0 0 0 1 255 0", head + "2 0 0 0 0 0 0 0 0 0 0 1 0 0 0 0 0 0 1", head + "3 0 0 0 0 0"} {
		_, e := archive.Parse(s)
		want(t, "Parse of "+s, e, api.OK)
	}
}

// builder makes a value of its numbers, by the definition alone.
type builder struct {
	items []int
	ok    bool
}

func (b *builder) next(low, high int) int {
	if len(b.items) == 0 || b.items[0] < low || b.items[0] > high {
		b.ok = false
		return 0
	}
	n := b.items[0]
	b.items = b.items[1:]
	return n
}

func (b *builder) fill(v reflect.Value) {
	switch v.Kind() {
	case reflect.Int:
		v.SetInt(int64(b.next(-large, large)))
	case reflect.Bool:
		v.SetBool(b.next(0, 1) == 1)
	case reflect.String:
		var bytes []byte
		for range b.next(0, large) {
			if bytes = append(bytes, byte(b.next(0, 255))); !b.ok {
				return
			}
		}
		v.SetString(string(bytes))
	case reflect.Slice:
		for range b.next(0, large) {
			x := reflect.New(v.Type().Elem()).Elem()
			if b.fill(x); !b.ok {
				return
			}
			v.Set(reflect.Append(v, x))
		}
	case reflect.Struct:
		for i := range v.NumField() {
			b.fill(v.Field(i))
		}
	}
}

var resultForm = regexp.MustCompile(`^result ([A-Za-z][A-Za-z0-9-]{0,11}) ([A-Za-z][A-Za-z0-9-]{0,11}) (0|[1-9][0-9]{0,6}) ([0-9])((?: (?:0|-?[1-9][0-9]{0,15}))*)$`)

// resultOf returns the result that a text is that of, by the definition alone.
func resultOf(s string) (api.Result, bool) {
	m := resultForm.FindStringSubmatch(s)
	if m == nil {
		return api.Result{}, false
	}
	r := api.Result{Name: m[1], Author: m[2]}
	r.Number, _ = strconv.Atoi(m[3])
	r.Claim.Kind, _ = strconv.Atoi(m[4])
	b := builder{ok: true}
	for _, word := range strings.Fields(m[5]) {
		n, _ := strconv.Atoi(word)
		b.items = append(b.items, n)
	}
	for _, name := range fieldsOf(r.Claim.Kind) {
		b.fill(reflect.ValueOf(&r.Claim).Elem().FieldByName(name))
	}
	if r.Number > 1000000 || !b.ok || len(b.items) > 0 {
		return api.Result{}, false
	}
	return r, true
}

// P10.2, P10.7: just the texts that are written are read, with words and bytes changed, left out, and put in.
func TestParseChanged(t *testing.T) {
	r := rand.New(rand.NewSource(1))
	words := []string{"0", "1", "2", "-1", "3", "4", "7", "-0", "00", "01", "+1", "", "x", "result", "1000000000000000", "1000000000000001", "-1000000000000000", "-1000000000000001", "255", "256"}
	bytes := "0123456789 -+ax\n#\x00\xff"
	read := 0
	for _, result := range results(t) {
		text := textOf(result)
		for range 400 {
			l := strings.Split(text, " ")
			for range 1 + r.Intn(2) {
				switch i := r.Intn(len(l)); r.Intn(4) {
				case 0:
					l[i] = words[r.Intn(len(words))]
				case 1:
					l = slices.Delete(l, i, i+1)
				case 2:
					l = slices.Insert(l, i, words[r.Intn(len(words))])
				case 3:
					l[i] = l[r.Intn(len(l))]
				}
			}
			s := strings.Join(l, " ")
			if r.Intn(4) == 0 {
				i := r.Intn(len(s))
				s = s[:i] + string(bytes[r.Intn(len(bytes))]) + s[i+r.Intn(2):]
			}
			got, e := archive.Parse(s)
			right, ok := resultOf(s)
			if ok {
				read++
				wantAlike(t, "Parse of "+s, got, e, right, api.OK)
				again, e := archive.Format(got)
				wantText(t, "Format again", again, e, s, api.OK)
			} else {
				wantAlike(t, "Parse of "+s, got, e, api.Result{}, api.ErrSyntax)
			}
		}
	}
	if read < 1000 {
		t.Errorf("only %d changed texts are texts of results", read)
	}
}

// P10.2, P10.7: results that are written are read back, also those that are not true.
func TestFormatRandom(t *testing.T) {
	r := rand.New(rand.NewSource(2))
	for range 3000 {
		x := api.Result{Name: "x", Author: "y", Number: r.Intn(1000001)}
		randomValue(r, reflect.ValueOf(&x.Claim).Elem(), 0)
		x.Claim.Kind = r.Intn(10)
		text, e := archive.Format(x)
		if len(textOf(x)) > 20000 {
			wantText(t, "Format", text, e, "", api.ErrLarge)
			continue
		}
		wantText(t, "Format", text, e, textOf(x), api.OK)
		back, e := archive.Parse(text)
		wantAlike(t, "Parse of "+text, back, e, bare(x), api.OK)
	}
}

// randomValue fills a value with numbers that a text may contain.
func randomValue(r *rand.Rand, v reflect.Value, depth int) {
	switch v.Kind() {
	case reflect.Int:
		v.SetInt(int64([]int{0, 1, -1, r.Intn(9), r.Intn(1000000), -large, large}[r.Intn(7)]))
	case reflect.Bool:
		v.SetBool(r.Intn(2) == 0)
	case reflect.String:
		bytes := make([]byte, r.Intn(5))
		r.Read(bytes)
		v.SetString(string(bytes))
	case reflect.Slice:
		n := r.Intn(4)
		v.Set(reflect.MakeSlice(v.Type(), n, n))
		for i := range n {
			randomValue(r, v.Index(i), depth+1)
		}
	case reflect.Struct:
		for i := range v.NumField() {
			randomValue(r, v.Field(i), depth)
		}
	}
}
