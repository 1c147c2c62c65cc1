package field

import "strings"

const (
	// The bytes of tokens beside letters and digits.
	marks = "!#$%&'*+-.^_`|~"

	quote  = '"'
	escape = '\\'
	del    = 0x7f
)

func isTokenByte(c byte) bool {
	switch {
	case c >= 'a' && c <= 'z', c >= 'A' && c <= 'Z', c >= '0' && c <= '9':
		return true
	}
	return strings.IndexByte(marks, c) >= 0
}

func isTextByte(c byte) bool {
	switch {
	case c == '\t':
		return true
	case c < ' ', c == del:
		return false
	}
	return true
}

func consists(s string, of func(byte) bool) bool {
	for i := range len(s) {
		if !of(s[i]) {
			return false
		}
	}
	return true
}

func trim(s string) string { return strings.Trim(s, " \t") }

// same: whether two names are the same. The library's way of asking this
// would take letters for the same that aren't A to Z.
func same(a, b string) bool {
	if len(a) != len(b) {
		return false
	}
	for i := range len(a) {
		if smallByte(a[i]) != smallByte(b[i]) {
			return false
		}
	}
	return true
}

// has: whether one of the texts is the word.
func has(word string, list ...string) bool {
	for _, s := range list {
		if same(s, word) {
			return true
		}
	}
	return false
}

func small(s string) string {
	out := []byte(s)
	for i, c := range out {
		out[i] = smallByte(c)
	}
	return string(out)
}

func smallByte(c byte) byte {
	if c >= 'A' && c <= 'Z' {
		return c - 'A' + 'a'
	}
	return c
}

// filled is the parts that aren't empty.
func filled(parts ...string) []string {
	var list []string
	for _, s := range parts {
		if s != "" {
			list = append(list, s)
		}
	}
	return list
}

// cut is the trimmed parts between the marks that aren't in quotes: one at
// least, of a text without marks all of it.
func cut(s string, mark byte) []string {
	var parts []string
	begin := 0
	quoted := false
	for at := 0; at < len(s); at++ {
		switch c := s[at]; {
		case quoted && c == escape:
			at++
		case c == quote:
			quoted = !quoted
		case c == mark && !quoted:
			parts = append(parts, trim(s[begin:at]))
			begin = at + 1
		}
	}
	return append(parts, trim(s[begin:]))
}

// unquoted is the text that stands in quotes from the first byte to the very
// last one; false: it is none.
func unquoted(s string) (string, bool) {
	if s == "" || s[0] != quote {
		return "", false
	}
	text := make([]byte, 0, len(s))
	for at := 1; at < len(s); at++ {
		switch {
		case s[at] == quote && at == len(s)-1:
			return string(text), true
		case s[at] == quote:
			return "", false
		case s[at] == escape && at < len(s)-1:
			at++
		}
		text = append(text, s[at])
	}
	return "", false
}
