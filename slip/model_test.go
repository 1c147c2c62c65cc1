package slip_test

import (
	"bytes"
	"encoding/binary"
	"hash/crc32"
	"io"
	"strings"

	"manciple/api"
)

// The document's sentences once more, in another way: the table's rows as
// lists of letters, one a field, from which slips are judged, written and read.

const (
	longestRepo = 128
	longestTag  = 128
	longestType = 100
	mostSize    = 1 << 20
	mostAt      = 1 << 40
	longestBody = 1024
	ahead       = 6
)

// R Repo, T Tag, D Digest, Y Type, S Size, A At.
func row(kind int) string {
	if kind < 1 || kind > 6 {
		return ""
	}
	return []string{"RTDYSA", "RTA", "RT", "DYS", "D", "D"}[kind-1]
}

func between(n, least, most int) bool { return least <= n && n <= most }

func canBe(x api.Slip) bool {
	fields := row(x.Kind)
	if fields == "" {
		return false
	}
	for _, c := range []struct {
		letter   string
		zero, ok bool
	}{
		{"R", x.Repo == "", between(len(x.Repo), 1, longestRepo)},
		{"T", x.Tag == "", between(len(x.Tag), 1, longestTag)},
		{"D", x.Digest == api.Digest{}, true},
		{"Y", x.Type == "", between(len(x.Type), 0, longestType)},
		{"S", x.Size == 0, between(x.Size, 0, mostSize)},
		{"A", x.At == 0, between(x.At, 0, mostAt)},
	} {
		if strings.Contains(fields, c.letter) && !c.ok || !strings.Contains(fields, c.letter) && !c.zero {
			return false
		}
	}
	return true
}

func text(s string) string { return string([]byte{byte(len(s))}) + s }

func eight(n uint64) string { return string(binary.BigEndian.AppendUint64(nil, n)) }

// body is that of the kind's fields, whether the slip can be or not.
func body(x api.Slip) string {
	s := string([]byte{byte(x.Kind)})
	for _, letter := range row(x.Kind) {
		s += map[rune]string{
			'R': text(x.Repo), 'T': text(x.Tag), 'D': string(x.Digest[:]), 'Y': text(x.Type),
			'S': eight(uint64(x.Size)), 'A': eight(uint64(x.At)),
		}[letter]
	}
	return s
}

// framed is a record of any body of at most 2^16 - 1 bytes.
func framed(body string) string {
	length := binary.BigEndian.AppendUint16(nil, uint16(len(body)))
	sum := crc32.ChecksumIEEE(append(bytes.Clone(length), body...))
	return string(binary.LittleEndian.AppendUint32(length, sum)) + body
}

func record(x api.Slip) string { return framed(body(x)) }

// readBody is the slip of a body, or false.
func readBody(s string) (api.Slip, bool) {
	in := bytes.NewReader([]byte(s))
	whole := true
	take := func(n uint64) []byte {
		b := make([]byte, n)
		if _, e := io.ReadFull(in, b); e != nil {
			whole = false
		}
		return b
	}
	taken := func() string { return string(take(uint64(take(1)[0]))) }
	fits := true
	eight := func() int {
		n := binary.BigEndian.Uint64(take(8))
		fits = fits && n <= mostAt
		return int(n)
	}
	x := api.Slip{Kind: int(take(1)[0])}
	for _, letter := range row(x.Kind) {
		switch letter {
		case 'R':
			x.Repo = taken()
		case 'T':
			x.Tag = taken()
		case 'D':
			x.Digest = api.Digest(take(32))
		case 'Y':
			x.Type = taken()
		case 'S':
			x.Size = eight()
		case 'A':
			x.At = eight()
		}
	}
	return x, whole && fits && in.Len() == 0 && canBe(x)
}

// read is P8.2's row of errors.
func read(s string) (api.Slip, int, api.Errno) {
	if len(s) < ahead {
		return api.Slip{}, 0, api.ErrShort
	}
	n := int(s[0])*256 + int(s[1])
	if n == 0 || n > longestBody {
		return api.Slip{}, 0, api.ErrForm
	}
	if len(s) < ahead+n {
		return api.Slip{}, 0, api.ErrShort
	}
	if s[:ahead+n] != framed(s[ahead:ahead+n]) {
		return api.Slip{}, 0, api.ErrSum
	}
	x, ok := readBody(s[ahead : ahead+n])
	if !ok {
		return api.Slip{}, 0, api.ErrForm
	}
	return x, ahead + n, api.OK
}

// readAll is that of read, from behind each record once more.
func readAll(s string) ([]api.Slip, int) {
	x, n, e := read(s)
	if e != api.OK {
		return nil, 0
	}
	list, m := readAll(s[n:])
	return append([]api.Slip{x}, list...), n + m
}
