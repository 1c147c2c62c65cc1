package inlet_test

import (
	"regexp"
	"strings"

	"manciple/api"
	"manciple/chunk"
	"manciple/field"
)

// The document's sentences once more, in another way: of all bytes that have
// come at once, by patterns over texts that have a rune for each byte.

var requestForm = regexp.MustCompile(`\A([-!#$%&'*+.^_` + "`" + `|~0-9A-Za-z]+) ([\x{21}-\x{7e}]+) HTTP/([0-9]\.[0-9])\z`)

// wide is a text with a rune for each byte.
func wide(s string) string {
	var out strings.Builder
	for _, b := range []byte(s) {
		out.WriteRune(rune(b))
	}
	return out.String()
}

func line(s string) (string, string, int, int) {
	m := requestForm.FindStringSubmatch(wide(s))
	switch {
	case m == nil:
		return "", "", 0, 400
	case m[3] == "1.0":
		return m[1], m[2], 0, 200
	case m[3] == "1.1":
		return m[1], m[2], 1, 200
	}
	return "", "", 0, 505
}

// sofar is what all that has come comes to: the requests, what Next answers
// behind them, and how many bytes none of them has.
func sofar(s string) ([]api.Request, int, int) {
	var list []api.Request
	for {
		r, n, status := first(s)
		if status != 200 {
			return list, status, len(s)
		}
		list = append(list, r)
		s = s[n:]
	}
}

// first is the request that a text begins with, and how many bytes it has.
func first(s string) (api.Request, int, int) {
	start, list, n, e := field.Split(s)
	if e != api.OK {
		return api.Request{}, 0, map[api.Errno]int{api.ErrForm: 400, api.ErrLong: 431}[e]
	}
	method, target, minor, status := line(start)
	if status != 200 {
		return api.Request{}, 0, status
	}
	if hosts := hostsOf(list); hosts > 1 || hosts+1-minor < 1 {
		return api.Request{}, 0, 400
	}
	length, chunks, e := field.Frame(list, 4096)
	if e != api.OK {
		return api.Request{}, 0, map[api.Errno]int{api.ErrForm: 400, api.ErrLong: 413}[e]
	}
	if chunks {
		length, e = lengthOf(s[n:])
	}
	switch {
	case e != api.OK:
		return api.Request{}, 0, map[api.Errno]int{api.ErrForm: 400, api.ErrLong: 413}[e]
	case length > len(s)-n:
		return api.Request{}, 0, 0
	}
	return api.Request{Method: method, Target: target, Fields: list, Close: field.Closes(list, minor)}, n + max(length, 0), 200
}

func hostsOf(list []api.Field) int {
	n := 0
	for _, f := range list {
		if strings.ToLower(f.Name) == "host" {
			n++
		}
	}
	return n
}

// lengthOf is how many bytes a body in chunks has; ErrShort.
func lengthOf(s string) (int, api.Errno) {
	c := chunk.New(4096)
	for i := range len(s) {
		if e := c.Add(s[i : i+1]); e != api.OK {
			return 0, e
		}
		if c.Done() {
			return i + 1, api.OK
		}
	}
	return 0, api.ErrShort
}
