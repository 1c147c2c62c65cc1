package chunk_test

import (
	"fmt"
	"math/big"
	"regexp"
	"strconv"
	"strings"

	"manciple/api"
)

// The document's sentences once more, in another way: of all bytes that have
// come, by patterns over texts that have a rune for each byte.

const (
	textText  = "[\\x{21}-\\x{7e}\\x{80}-\\x{ff} \t]*"
	tokenText = "[-!#$%&'*+.^_`|~0-9A-Za-z]+"

	mostLine   = 256
	mostFields = 16
)

var (
	lineForm  = regexp.MustCompile(`\A[^\n]*\n`)
	sizeForm  = regexp.MustCompile(`\A([0-9A-Fa-f]{1,16})(?:[ \t;]` + textText + `)?\r\n\z`)
	fieldForm = regexp.MustCompile(`\A` + tokenText + `:` + textText + `\r\n\z`)
	endForm   = regexp.MustCompile(`\A(?:\r\n|\r?\z)`)
)

// outcome is what bytes come to.
type outcome struct {
	data  string
	done  bool
	rest  string
	wrong api.Errno
}

func (o outcome) String() string {
	return fmt.Sprintf("data %.80q, %d bytes, done %v, rest %.80q, error %d", o.data, len(o.data), o.done, o.rest, int(o.wrong))
}

// wide is a text with a rune for each byte.
func wide(s string) string {
	var out strings.Builder
	for _, b := range []byte(s) {
		out.WriteRune(rune(b))
	}
	return out.String()
}

// firstLine is the line that a text begins with, with its end; ErrShort.
func firstLine(s string) (string, api.Errno) {
	line := lineForm.FindString(wide(s[:min(len(s), mostLine)]))
	switch n := len([]rune(line)); {
	case n > 0:
		return s[:n], api.OK
	case len(s) >= mostLine:
		return "", api.ErrForm
	}
	return "", api.ErrShort
}

// numberOf is the number of a chunk's line, of which so much may be.
func numberOf(line string, most int) (int, api.Errno) {
	m := sizeForm.FindStringSubmatch(wide(line))
	if m == nil {
		return 0, api.ErrForm
	}
	n, _ := new(big.Int).SetString(m[1], 16)
	if n.Cmp(big.NewInt(int64(most))) > 0 || n.Cmp(big.NewInt(1<<62)) > 0 {
		return 0, api.ErrLong
	}
	return int(n.Int64()), api.OK
}

// sofar is what a text comes to, of which more may come.
func sofar(s string, most int) outcome {
	o := read(s, most)
	if o.wrong == api.ErrShort {
		o.wrong = api.OK
	}
	return o
}

// read is what a text comes to; ErrShort: more bytes are needed.
func read(s string, most int) outcome {
	var o outcome
	for {
		line, e := firstLine(s)
		if e != api.OK {
			o.wrong = e
			return o
		}
		n, e := numberOf(line, max(most, 0)-len(o.data))
		if e != api.OK {
			o.wrong = e
			return o
		}
		s = s[len(line):]
		if n == 0 {
			return readFields(o, s)
		}
		has := min(n, len(s))
		o.data += s[:has]
		s = s[has:]
		switch {
		case has < n || s == "" || s == "\r":
			o.wrong = api.ErrShort
			return o
		case !endForm.MatchString(wide(s)):
			o.wrong = api.ErrForm
			return o
		}
		s = s[2:]
	}
}

func readFields(o outcome, s string) outcome {
	for count := 0; ; count++ {
		line, e := firstLine(s)
		switch {
		case e != api.OK:
			o.wrong = e
			return o
		case line == "\r\n":
			o.done = true
			o.rest = s[2:]
			return o
		case !fieldForm.MatchString(wide(line)):
			o.wrong = api.ErrForm
			return o
		case count == mostFields:
			o.wrong = api.ErrLong
			return o
		}
		s = s[len(line):]
	}
}

// write is a body in chunks.
func write(s string, by int) string {
	by = max(by, 1)
	var out string
	for at := 0; at < len(s); {
		n := min(by, len(s)-at)
		out += strconv.FormatInt(int64(n), 16) + "\r\n" + s[at:at+n] + "\r\n"
		at += n
	}
	return out + "0\r\n\r\n"
}
