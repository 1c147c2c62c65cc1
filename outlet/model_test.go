package outlet_test

import (
	"fmt"
	"regexp"
	"strings"

	"manciple/api"
)

// The document's sentences once more, in another way: by patterns over texts
// that have a rune for each byte, and heads that are put together whole.

const tokenText = "[-!#$%&'*+.^_`|~0-9A-Za-z]+"

var (
	askForm   = regexp.MustCompile(`\A` + tokenText + ` [\x{21}-\x{7e}]+ HTTP/1\.1\z`)
	tokenForm = regexp.MustCompile(`\A` + tokenText + `\z`)
	valueForm = regexp.MustCompile("\\A(?:|[\\x{21}-\\x{7e}\\x{80}-\\x{ff}](?:[\\x{21}-\\x{7e}\\x{80}-\\x{ff} \t]*[\\x{21}-\\x{7e}\\x{80}-\\x{ff}])?)\\z")
)

const reasons = `200 OK, 206 Partial Content, 304 Not Modified, 400 Bad Request, 404 Not Found, 405 Method Not Allowed, 406 Not Acceptable, 413 Content Too Large, 416 Range Not Satisfiable, 431 Request Header Fields Too Large, 502 Bad Gateway, 503 Service Unavailable, 504 Gateway Timeout, 505 HTTP Version Not Supported`

// wide is a text with a rune for each byte.
func wide(s string) string {
	var out strings.Builder
	for _, b := range []byte(s) {
		out.WriteRune(rune(b))
	}
	return out.String()
}

func reason(status int) string {
	for _, part := range strings.Split(reasons, ", ") {
		if words, ok := strings.CutPrefix(part, fmt.Sprint(status)+" "); ok {
			return words
		}
	}
	return "Unknown"
}

func good(f api.Field) bool {
	return tokenForm.MatchString(wide(f.Name)) && valueForm.MatchString(wide(f.Value))
}

func answer(status int, list ...api.Field) (string, api.Errno) {
	start := fmt.Sprintf("HTTP/1.1 %d %s", status, reason(status))
	return whole(status >= 100 && status <= 599, start, list...)
}

func ask(method, target string, list ...api.Field) (string, api.Errno) {
	start := fmt.Sprintf("%s %s HTTP/1.1", method, target)
	return whole(askForm.MatchString(wide(start)) && len(start) <= 1024, start, list...)
}

func whole(ok bool, start string, list ...api.Field) (string, api.Errno) {
	lines := []string{start}
	for _, f := range list {
		ok = ok && good(f)
		lines = append(lines, fmt.Sprintf("%s: %s", f.Name, f.Value))
	}
	s := strings.Join(lines, "\r\n") + "\r\n\r\n"
	switch {
	case !ok || len(list) > 32:
		return "", api.ErrArg
	case len(s) > 4096:
		return "", api.ErrLong
	}
	return s, api.OK
}

func bodyless(status int, head bool) bool {
	return head || regexp.MustCompile(`\A(1[0-9][0-9]|204|304)\z`).MatchString(fmt.Sprint(status))
}
