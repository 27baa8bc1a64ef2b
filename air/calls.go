package air

import (
	"strings"

	"pileup/api"
)

// A form is one of the ways in which words with slashes between them are a call sign.
type form struct {
	words int
	read  func(words []string) (api.Parts, bool)
}

// forms returns the forms of a call sign in the order in which they are tried.
func forms() []form {
	return []form{
		{1, func(w []string) (api.Parts, bool) { return readBase(w[0]) }},
		{2, func(w []string) (api.Parts, bool) {
			p, ok := readBase(w[1])
			p.Area = w[0]
			return p, ok && isArea(w[0]) && len(w[0]) < len(w[1])
		}},
		{2, func(w []string) (api.Parts, bool) {
			p, ok := readBase(w[0])
			p.Stroke = w[1]
			return p, ok && isStroke(w[1])
		}},
		{3, func(w []string) (api.Parts, bool) {
			p, ok := readBase(w[1])
			p.Area, p.Stroke = w[0], w[2]
			return p, ok && isArea(w[0]) && isStroke(w[2])
		}},
	}
}

// readBase returns the prefix and the suffix of a base.
func readBase(s string) (api.Parts, bool) {
	end := 0
	for i, r := range s {
		if isDigit(r) {
			end = i + 1
		}
	}
	p := api.Parts{Prefix: s[:end], Suffix: s[end:]}
	return p, isArea(p.Prefix) && isWord(p.Suffix)
}

// isWord reports whether a text consists of 1 to 4 letters.
func isWord(s string) bool {
	return within(len(s), 1, 4) && count(s, isLetter) == len(s)
}

// isArea reports whether a text consists of 1 to 4 letters and digits, with a letter. Prefixes do, too.
func isArea(s string) bool {
	letters := count(s, isLetter)
	return len(s) <= 4 && letters > 0 && letters+count(s, isDigit) == len(s)
}

// isStroke reports whether a text is a stroke.
func isStroke(s string) bool {
	return isWord(s) || isFigure(s)
}

// isFigure reports whether a text is one digit.
func isFigure(s string) bool {
	return len(s) == 1 && count(s, isDigit) == 1
}

// ValidCall reports whether a text is a call sign.
func ValidCall(s string) bool {
	_, e := Split(s)
	return e == api.OK
}

// Split returns the parts of a call sign.
func Split(call string) (api.Parts, api.Errno) {
	if len(call) > api.MaxCall {
		return api.Parts{}, api.ErrCall
	}
	words := strings.Split(call, "/")
	for _, f := range forms() {
		if f.words != len(words) {
			continue
		}
		if p, ok := f.read(words); ok {
			return p, api.OK
		}
	}
	return api.Parts{}, api.ErrCall
}

// Join returns the call sign of parts.
func Join(p api.Parts) (string, api.Errno) {
	var b strings.Builder
	if p.Area != "" {
		b.WriteString(p.Area + "/")
	}
	b.WriteString(p.Prefix + p.Suffix)
	if p.Stroke != "" {
		b.WriteString("/" + p.Stroke)
	}
	// The text may be a call sign whose parts are others than these.
	if back, e := Split(b.String()); e != api.OK || back != p {
		return "", api.ErrCall
	}
	return b.String(), api.OK
}

// Base returns a call sign without area and stroke.
func Base(call string) (string, api.Errno) {
	p, e := Split(call)
	return p.Prefix + p.Suffix, e
}

// Same reports whether two call signs have the same base.
func Same(a, b string) (bool, api.Errno) {
	x, e := Base(a)
	y, f := Base(b)
	if e != api.OK || f != api.OK {
		return false, api.ErrCall
	}
	return x == y, api.OK
}

// PrefixOf returns the prefix as which a call sign counts.
func PrefixOf(call string) (string, api.Errno) {
	p, e := Split(call)
	switch {
	case e != api.OK:
		return "", e
	case p.Area != "" && isFigure(p.Area[len(p.Area)-1:]):
		return p.Area, api.OK
	case p.Area != "":
		return p.Area + "0", api.OK
	case isFigure(p.Stroke):
		return p.Prefix[:len(p.Prefix)-1] + p.Stroke, api.OK
	}
	return p.Prefix, api.OK
}
