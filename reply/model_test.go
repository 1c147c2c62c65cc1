package reply_test

import (
	"regexp"
	"strconv"
	"strings"

	"manciple/api"
	"manciple/chunk"
	"manciple/field"
	"manciple/reply"
)

// The document's sentences once more, in another way: of all bytes that have
// come at once, by patterns over texts that have a rune for each byte.

var statusForm = regexp.MustCompile(`\AHTTP/1\.([01]) ([1-5][0-9][0-9])( [\t \x{21}-\x{7e}\x{80}-\x{ff}]*)?\z`)

// wide is a text with a rune for each byte.
func wide(s string) string {
	var out strings.Builder
	for _, b := range []byte(s) {
		out.WriteRune(rune(b))
	}
	return out.String()
}

func line(s string) (int, int, bool) {
	m := statusForm.FindStringSubmatch(wide(s))
	if m == nil {
		return 0, 0, false
	}
	status, _ := strconv.Atoi(m[2])
	return status, int(m[1][0] - '0'), true
}

// all is what comes of a response, all in all: the heads that were told (one
// at most), the data, and None, End or Bad.
type all struct {
	heads []api.Answer
	data  string
	end   int
	rest  string
}

// sofar is what all that has come comes to.
func sofar(head bool, most int, s string, shut bool) all {
	got := open(head, max(most, 0), s, shut)
	if got.end == reply.None && shut {
		got.end = reply.Bad
	}
	return got
}

func open(head bool, most int, s string, shut bool) all {
	for range 6 {
		start, list, n, e := field.Split(s)
		status, minor, ok := line(start)
		switch {
		case e == api.ErrShort:
			return all{}
		case e != api.OK || !ok || status == 101:
			return all{end: reply.Bad}
		case status >= 200:
			return bodyOf(head, most, status, minor, list, s[n:], shut)
		}
		s = s[n:]
	}
	// What came last of the sixth was its head.
	return all{end: reply.Bad}
}

func bodyOf(head bool, most, status, minor int, list []api.Field, s string, shut bool) all {
	closes := field.Closes(list, minor)
	if head || status == 204 || status == 304 {
		length := 0
		if n, e := lengthOf(list); e == nil && n <= 1<<20 && len(list) > 0 {
			length = n
		}
		return all{heads: []api.Answer{{Status: status, Fields: list, Length: length, Close: closes}}, end: reply.End, rest: s}
	}
	length, chunks, e := field.Frame(list, most)
	answer := api.Answer{Status: status, Fields: list, Length: length, Chunks: chunks, Close: closes || length < 0}
	switch {
	case e != api.OK:
		return all{end: reply.Bad}
	case chunks:
		return chunksOf(answer, most, s)
	case length < 0 && len(s) > most:
		return all{heads: []api.Answer{answer}, data: s[:most], end: reply.Bad}
	case length < 0 && shut:
		return all{heads: []api.Answer{answer}, data: s, end: reply.End}
	case length < 0 || len(s) < length:
		return all{heads: []api.Answer{answer}, data: s}
	}
	return all{heads: []api.Answer{answer}, data: s[:length], end: reply.End, rest: s[length:]}
}

// lengthOf is the number that a head's only framing field tells.
func lengthOf(list []api.Field) (int, error) {
	value := ""
	for _, f := range list {
		switch strings.ToLower(f.Name) {
		case "transfer-encoding":
			return 0, strconv.ErrSyntax
		case "content-length":
			if value != "" {
				return 0, strconv.ErrSyntax
			}
			value = f.Value + "."
		}
	}
	digits := strings.TrimSuffix(value, ".")
	if digits != "0" && (digits == "" || strings.Trim(digits, "0123456789") != "" || digits[0] == '0') {
		return 0, strconv.ErrSyntax
	}
	return strconv.Atoi(digits)
}

// chunksOf reads a body in chunks byte by byte.
func chunksOf(answer api.Answer, most int, s string) all {
	got := all{heads: []api.Answer{answer}}
	c := chunk.New(most)
	for i := range len(s) {
		e := c.Add(s[i : i+1])
		got.data += c.Take()
		switch {
		case e != api.OK:
			got.end = reply.Bad
			return got
		case c.Done():
			got.end = reply.End
			got.rest = s[i+1:]
			return got
		}
	}
	return got
}
