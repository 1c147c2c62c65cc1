package field_test

import (
	"math/big"
	"regexp"
	"strings"

	"manciple/api"
)

// The document's sentences once more, in another way: as patterns over texts
// that have a rune for each byte.

const (
	mostHead   = 4096
	mostFields = 32
	mostStart  = 1024

	tokenText = "[-!#$%&'*+.^_`|~0-9A-Za-z]+"
	textText  = "[\\x{21}-\\x{7e}\\x{80}-\\x{ff} \t]*"
	// Quotes that are ended, and those that go to the end.
	quotesText = `"(?:[^"\\]|\\.)*(?:"|\\?\z)`
	quotedText = `"((?:[^"\\]|\\.)*)"`
)

var (
	tokenForm = regexp.MustCompile(`\A` + tokenText + `\z`)
	textForm  = regexp.MustCompile(`\A` + textText + `\z`)
	fieldForm = regexp.MustCompile(`\A(` + tokenText + `):(` + textText + `)\z`)
	paramForm = regexp.MustCompile(`(?s)\A(` + tokenText + `)=(?:(` + tokenText + `)|` + quotedText + `)\z`)
	pairForm  = regexp.MustCompile(`(?s)\\(.)`)
	endsForm  = regexp.MustCompile(`\A[ \t]+|[ \t]+\z`)
	lineForm  = regexp.MustCompile(`\A[^\r\n]*\r\n\z`)
	commaForm = regexp.MustCompile(`(?s)\A((?:[^",]|` + quotesText + `)*)(,|\z)`)
	pointForm = regexp.MustCompile(`(?s)\A((?:[^";]|` + quotesText + `)*)(;|\z)`)
	countForm = regexp.MustCompile(`\A(?:0|[1-9][0-9]*)\z`)
)

// wide is a text with a rune for each byte, narrow the other way round.
func wide(s string) string {
	var out strings.Builder
	for _, b := range []byte(s) {
		out.WriteRune(rune(b))
	}
	return out.String()
}

func narrow(s string) string {
	var out []byte
	for _, r := range s {
		out = append(out, byte(r))
	}
	return string(out)
}

func isToken(s string) bool { return tokenForm.MatchString(wide(s)) }

func trimmed(s string) string { return narrow(endsForm.ReplaceAllString(wide(s), "")) }

func good(f api.Field) bool {
	return isToken(f.Name) && textForm.MatchString(wide(f.Value)) && trimmed(f.Value) == f.Value
}

func parse(line string) (api.Field, api.Errno) {
	m := fieldForm.FindStringSubmatch(wide(line))
	if m == nil {
		return api.Field{}, api.ErrForm
	}
	return api.Field{Name: narrow(m[1]), Value: trimmed(narrow(m[2]))}, api.OK
}

// split judges line by line, all lines that end early enough; behind the last
// one of these stands what isn't ended.
func split(s string) (string, []api.Field, int, api.Errno) {
	lines := strings.SplitAfter(s[:min(len(s), mostHead)], "\n")
	var start string
	var list []api.Field
	n := 0
	for i, line := range lines[:len(lines)-1] {
		n += len(line)
		if e := lineError(i, line); e != api.OK {
			return "", nil, 0, e
		}
		switch line = line[:len(line)-2]; {
		case i == 0:
			start = line
		case line == "":
			return start, list, n, api.OK
		default:
			f, _ := parse(line)
			list = append(list, f)
		}
	}
	if len(s) >= mostHead {
		return "", nil, 0, api.ErrLong
	}
	return "", nil, 0, api.ErrShort
}

func lineError(i int, line string) api.Errno {
	if !lineForm.MatchString(wide(line)) {
		return api.ErrForm
	}
	line = strings.TrimSuffix(line, "\r\n")
	_, e := parse(line)
	switch {
	case i == 0 && line == "":
		return api.ErrForm
	case i == 0 && len(line) > mostStart:
		return api.ErrLong
	case i == 0 || line == "":
		return api.OK
	case e != api.OK:
		return e
	case i > mostFields:
		return api.ErrLong
	}
	return api.OK
}

// lower makes the letters A to Z small ones, and no others.
func lower(s string) string {
	for i := range 26 {
		s = strings.ReplaceAll(s, string(rune('A'+i)), string(rune('a'+i)))
	}
	return s
}

func named(list []api.Field, name string) []string {
	var values []string
	for _, f := range list {
		if lower(f.Name) == lower(name) {
			values = append(values, f.Value)
		}
	}
	return values
}

func get(list []api.Field, name string) (string, int) {
	values := named(list, name)
	return append(values, "")[0], len(values)
}

// parts are all, the empty ones too.
func parts(s string, form *regexp.Regexp) []string {
	var list []string
	for s = wide(s); ; {
		m := form.FindStringSubmatch(s)
		list = append(list, trimmed(narrow(m[1])))
		if m[2] == "" {
			return list
		}
		s = s[len(m[0]):]
	}
}

func elements(list []api.Field, name string) []string {
	var all []string
	for _, value := range named(list, name) {
		for _, s := range parts(value, commaForm) {
			if s != "" {
				all = append(all, s)
			}
		}
	}
	return all
}

func params(s string) (string, []api.Field, api.Errno) {
	all := parts(s, pointForm)
	var list []api.Field
	for _, part := range all[1:] {
		m := paramForm.FindStringSubmatch(wide(part))
		switch {
		case part == "":
			continue
		case m == nil:
			return "", nil, api.ErrForm
		}
		value := m[2] + pairForm.ReplaceAllString(m[3], "$1")
		list = append(list, api.Field{Name: lower(narrow(m[1])), Value: narrow(value)})
	}
	return all[0], list, api.OK
}

func frame(list []api.Field, most int) (int, bool, api.Errno) {
	codings := named(list, "transfer-encoding")
	lengths := named(list, "content-length")
	if len(codings) > 0 {
		if len(codings) == 1 && lower(codings[0]) == "chunked" && len(lengths) == 0 {
			return 0, true, api.OK
		}
		return 0, false, api.ErrForm
	}
	if len(lengths) == 0 {
		return -1, false, api.OK
	}
	if len(lengths) > 1 || !countForm.MatchString(wide(lengths[0])) {
		return 0, false, api.ErrForm
	}
	n, _ := new(big.Int).SetString(lengths[0], 10)
	if n.Cmp(big.NewInt(int64(most))) > 0 || n.Cmp(big.NewInt(1<<62)) > 0 {
		return 0, false, api.ErrLong
	}
	return int(n.Int64()), false, api.OK
}

func closes(list []api.Field, minor int) bool {
	count := map[string]int{}
	for _, s := range elements(list, "connection") {
		count[lower(s)]++
	}
	return count["close"] > 0 || minor < 1 && count["keep-alive"] == 0
}
