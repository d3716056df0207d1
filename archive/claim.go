package archive

import (
	"slices"

	"flatland/api"
	"flatland/billiard"
	"flatland/count"
	"flatland/cylinder"
	"flatland/exchange"
	"flatland/homology"
	"flatland/orbit"
	"flatland/origami"
	"flatland/surface"
)

// lastKind is the last kind of claims; the first one is 0.
const lastKind = api.ClaimWeight

// Verify checks a claim by its certificate.
func Verify(c api.Claim) api.Errno {
	switch c.Kind {
	case api.ClaimPeriod:
		return verifyPeriod(c)
	case api.ClaimMatch:
		return surface.CheckMatch(c.First, c.Second, c.Slots)
	case api.ClaimTraces:
		return cylinder.CheckTraces(c.First, c.Dir, c.Rays)
	case api.ClaimIsomorphism:
		return origami.CheckIsomorphism(c.From, c.To, c.List)
	case api.ClaimCovering:
		return origami.CheckCovering(c.From, c.To, c.List)
	case api.ClaimWord:
		return verifyWord(c)
	case api.ClaimOrbit:
		return orbit.CheckOrbit(c.Orbit)
	case api.ClaimBasis:
		return homology.CheckSymplectic(c.From, c.Lists)
	case api.ClaimPath:
		return verifyPath(c)
	case api.ClaimWeight:
		return verifyWeight(c)
	}
	return api.ErrRange
}

func verifyPeriod(c api.Claim) api.Errno {
	period, e := billiard.Period(c.Table, c.State, c.Count)
	return proven(e, period == c.Count)
}

func verifyWord(c api.Claim) api.Errno {
	image, e := orbit.Act(c.From, c.Word)
	if e != api.OK {
		return e
	}
	return origami.CheckIsomorphism(image, c.To, c.List)
}

func verifyPath(c api.Claim) api.Errno {
	_, matrix, e := exchange.Follow(c.Rows, c.List)
	return proven(e, slices.EqualFunc(matrix, c.Lists, slices.Equal))
}

func verifyWeight(c api.Claim) api.Errno {
	weight, e := count.Weight(c.List)
	return proven(e, slices.Equal(weight.Num, c.Rate.Num) && slices.Equal(weight.Den, c.Rate.Den))
}

// proven returns an error, or, if there is none, whether a claim holds.
func proven(e api.Errno, holds bool) api.Errno {
	if e == api.OK && !holds {
		return api.ErrProof
	}
	return e
}

// CheckResult accepts results that can be added to an archive.
func CheckResult(r api.Result) api.Errno {
	_, e := accepted(r)
	return e
}

// accepted returns the text of a result that can be added to an archive.
func accepted(r api.Result) (string, api.Errno) {
	switch {
	case !isName(r.Name) || !isName(r.Author):
		return "", api.ErrName
	case !within(r.Number, 0, maxNumber):
		return "", api.ErrRange
	}
	if e := Verify(r.Claim); e != api.OK {
		return "", e
	}
	return Format(r)
}

// isName reports whether a text is a name.
func isName(s string) bool {
	for i := range len(s) {
		if !isLetter(s[i]) && (i == 0 || !isDigit(s[i]) && s[i] != '-') {
			return false
		}
	}
	return within(len(s), 1, api.MaxName)
}

func isLetter(b byte) bool { return 'A' <= b && b <= 'Z' || 'a' <= b && b <= 'z' }

func isDigit(b byte) bool { return '0' <= b && b <= '9' }
