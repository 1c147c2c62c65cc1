package slip

import (
	"strings"

	"manciple/api"
)

// writer is a builder of texts that knows how a record's parts are written.
type writer struct {
	strings.Builder
}

// slip writes the body of a slip that can be.
func (w *writer) slip(x api.Slip) {
	has := layoutOf(x.Kind)
	w.number(x.Kind, shortSize)
	if has.tag {
		w.text(x.Repo)
		w.text(x.Tag)
	}
	if has.digest {
		w.Write(x.Digest[:])
	}
	if has.media {
		w.text(x.Type)
		w.number(x.Size, longSize)
	}
	if has.time {
		w.number(x.At, longSize)
	}
}

func (w *writer) text(s string) {
	w.number(len(s), shortSize)
	w.WriteString(s)
}

func (w *writer) number(n, size int) {
	for at := size - 1; at >= 0; at-- {
		w.WriteByte(byte(n >> (8 * at)))
	}
}

// reader is what is still unread of a body; torn: it ended too early.
type reader struct {
	rest string
	torn bool
}

// slip reads a body as far as it goes; whether the slip can be is still to be
// asked.
func (r *reader) slip() api.Slip {
	x := api.Slip{Kind: number(r.take(shortSize))}
	has := layoutOf(x.Kind)
	if has.tag {
		x.Repo = r.text()
		x.Tag = r.text()
	}
	if has.digest {
		copy(x.Digest[:], r.take(len(x.Digest)))
	}
	if has.media {
		x.Type = r.text()
		x.Size = number(r.take(longSize))
	}
	if has.time {
		x.At = number(r.take(longSize))
	}
	return x
}

// text is copied, so that a slip shares no memory with what it was read from,
// which may be all of a file.
func (r *reader) text() string {
	return strings.Clone(r.take(number(r.take(shortSize))))
}

func (r *reader) take(n int) string {
	if n > len(r.rest) {
		r.torn = true
		return ""
	}
	taken := r.rest[:n]
	r.rest = r.rest[n:]
	return taken
}

// number is that of at most 8 bytes, the highest first. Eight of them from
// 2^63 on come out below 0, which no slip's number is.
func number(s string) int {
	n := 0
	for i := range len(s) {
		n = n<<8 | int(s[i])
	}
	return n
}
