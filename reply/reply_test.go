package reply_test

import (
	"fmt"
	"math"
	"math/rand"
	"reflect"
	"slices"
	"strings"
	"testing"
	"unsafe"

	"manciple/api"
	"manciple/chunk"
	"manciple/field"
	"manciple/reply"
)

const (
	ok     = "HTTP/1.1 200 OK\r\n"
	goesOn = "HTTP/1.1 100 Continue\r\n\r\n"
)

// texts calls do with all texts of at most most of the pieces.
func texts(most int, pieces []string, do func(s string)) {
	var more func(s string, left int)
	more = func(s string, left int) {
		do(s)
		if left == 0 {
			return
		}
		for _, piece := range pieces {
			more(s+piece, left-1)
		}
	}
	more("", most)
}

func oneByte(b int) string { return string([]byte{byte(b)}) }

// bytesOf is a text in parts of a byte each.
func bytesOf(s string) []string {
	var parts []string
	for i := range len(s) {
		parts = append(parts, s[i:i+1])
	}
	return parts
}

// of makes a list of names and values, in turns.
func of(pairs ...string) []api.Field {
	var list []api.Field
	for i := 0; i < len(pairs); i += 2 {
		list = append(list, api.Field{Name: pairs[i], Value: pairs[i+1]})
	}
	return list
}

func same(a, b api.Answer) bool {
	return a.Status == b.Status && a.Length == b.Length && a.Chunks == b.Chunks && a.Close == b.Close && slices.Equal(a.Fields, b.Fields)
}

func isZero(a api.Answer) bool { return reflect.DeepEqual(a, api.Answer{}) }

func mustLine(t *testing.T, s string, status, minor int, is bool) {
	t.Helper()
	if n, m, ok := reply.Line(s); n != status || m != minor || ok != is {
		t.Errorf("Line of %.80q: %d, %d, %v, want %d, %d, %v", s, n, m, ok, status, minor, is)
	}
}

func mustAdd(t *testing.T, p *reply.Reply, s string, want api.Errno) {
	t.Helper()
	if e := p.Add(s); e != want {
		t.Errorf("Add of %.80q, %d bytes: error %d, want %d", s, len(s), e, want)
	}
}

func mustRest(t *testing.T, p *reply.Reply, want string) {
	t.Helper()
	for range 2 {
		if s := p.Rest(); s != want {
			t.Errorf("Rest is %.80q, %d bytes, want %.80q", s, len(s), want)
		}
	}
}

// mustHead holds that Next is this head.
func mustHead(t *testing.T, p *reply.Reply, want api.Answer) {
	t.Helper()
	mustRest(t, p, "")
	if kind, answer, data := p.Next(); kind != reply.Head || !same(answer, want) || data != "" {
		t.Errorf("Next is %d, %+v, %.80q, want %+v", kind, answer, data, want)
	}
	mustRest(t, p, "")
}

// mustData holds that Next is just this data.
func mustData(t *testing.T, p *reply.Reply, want string) {
	t.Helper()
	mustRest(t, p, "")
	if kind, answer, data := p.Next(); kind != reply.Data || !isZero(answer) || data != want {
		t.Errorf("Next is %d, %+v, %.80q, %d bytes, want %.80q, %d bytes", kind, answer, data, len(data), want, len(want))
	}
	mustRest(t, p, "")
}

// mustBe holds that Next is None, End or Bad, more than once.
func mustBe(t *testing.T, p *reply.Reply, want int) {
	t.Helper()
	for range 3 {
		if kind, answer, data := p.Next(); kind != want || !isZero(answer) || data != "" {
			t.Errorf("Next is %d, %+v, %.80q, want %d", kind, answer, data, want)
		}
	}
	if want != reply.End {
		mustRest(t, p, "")
	}
}

// drain takes all that Next tells, up to None, End or Bad, and holds in which
// order it comes.
func drain(t *testing.T, p *reply.Reply, got *all) {
	t.Helper()
	for fresh := true; ; fresh = false {
		kind, answer, data := p.Next()
		switch {
		case kind == reply.Head && len(got.heads) == 0 && data == "" && fresh:
			got.heads = append(got.heads, answer)
			mustRest(t, p, "")
			continue
		case kind == reply.Data && len(got.heads) == 1 && data != "" && isZero(answer) && got.end == reply.None:
			got.data += data
			mustRest(t, p, "")
			// It was all of it.
			if kind, _, more := p.Next(); kind == reply.Data || more != "" {
				t.Errorf("%q and then %q", data, more)
			}
			continue
		case kind == reply.Head || kind == reply.Data || data != "" || !isZero(answer):
			t.Errorf("%d, %+v, %q behind %+v", kind, answer, data, got)
		case got.end != reply.None && kind != got.end:
			t.Errorf("%d behind %d", kind, got.end)
		}
		got.end = kind
		if got.end != reply.End {
			mustRest(t, p, "")
		}
		got.rest = p.Rest()
		return
	}
}

// mustCome holds what a text comes to, in these parts, if Next is asked behind
// each of them, and if it is asked at the end; and then if it is shut.
func mustCome(t *testing.T, head bool, most int, parts []string, want, shut all) {
	t.Helper()
	s := strings.Join(parts, "")
	var each, end all
	p, q := reply.New(head, most), reply.New(head, most)
	for _, part := range parts {
		mustAdd(t, p, part, api.OK)
		drain(t, p, &each)
		if len(s) <= api.MaxKeep {
			mustAdd(t, q, part, api.OK)
		}
	}
	drain(t, p, &each)
	mustBeAll(t, parts, each, want)
	p.Shut()
	drain(t, p, &each)
	mustBeAll(t, append(parts, "shut"), each, shut)
	mustAdd(t, p, "more", api.OK)
	drain(t, p, &each)
	mustBeAll(t, append(parts, "shut", "more"), each, shut)
	if len(s) > api.MaxKeep {
		return
	}
	drain(t, q, &end)
	mustBeAll(t, parts, end, want)
	q.Shut()
	drain(t, q, &end)
	mustBeAll(t, append(parts, "shut"), end, shut)
	// All has come, and it is shut, ahead of the first Next.
	q = reply.New(head, most)
	mustAdd(t, q, s, api.OK)
	q.Shut()
	q.Shut()
	mustAdd(t, q, "", api.OK)
	end = all{}
	drain(t, q, &end)
	mustBeAll(t, []string{s, "shut at once"}, end, shut)
}

func mustBeAll(t *testing.T, parts []string, got, want all) {
	t.Helper()
	if !slices.EqualFunc(got.heads, want.heads, same) || got.data != want.data || got.end != want.end || got.rest != want.rest {
		t.Errorf("%.300q: %.600s, want %.600s", parts, fmt.Sprintf("%+v", got), fmt.Sprintf("%+v", want))
	}
}

// mustBeBad holds that a text has these heads and data, and is none just at its
// last byte, all at once and byte by byte, and stays it; the byte ahead of that
// isn't data.
func mustBeBad(t *testing.T, head bool, most int, s string, list []api.Answer, data string) {
	t.Helper()
	short := s[:len(s)-1]
	open := all{heads: list, data: data}
	// If it is shut there, it may be whole, if its body goes to the end.
	shut := sofar(head, most, short, true)
	bad := all{heads: list, data: data, end: reply.Bad}
	for _, parts := range [][]string{{s}, {s[:len(s)-1], s[len(s)-1:]}, bytesOf(s), {s + "\r\n\r\n"}, {s, ok + "Content-Length: 0\r\n\r\n"}} {
		mustCome(t, head, most, parts, bad, bad)
	}
	mustCome(t, head, most, []string{short}, open, shut)
	mustCome(t, head, most, bytesOf(short), open, shut)
}

// mustBeNone holds that a text is no head just at its last byte, behind some
// that are passed over, too.
func mustBeNone(t *testing.T, head bool, most int, s string) {
	t.Helper()
	for _, n := range []int{0, 1, 5} {
		mustBeBad(t, head, most, strings.Repeat(goesOn, n)+s, nil, "")
	}
}

// mustBeWhole holds that a text is a response just at its last byte, with this
// head and data, and that what comes behind it is the rest.
func mustBeWhole(t *testing.T, head bool, most int, s string, answer api.Answer, data string) {
	t.Helper()
	for _, n := range []int{0, 1, 5} {
		text := strings.Repeat(goesOn, n) + s
		whole := all{heads: []api.Answer{answer}, data: data, end: reply.End}
		mustCome(t, head, most, []string{text}, whole, whole)
		mustCome(t, head, most, []string{text[:len(text)-1], text[len(text)-1:]}, whole, whole)
		mustCome(t, head, most, bytesOf(text), whole, whole)
		short := text[:len(text)-1]
		open := sofar(head, most, short, false)
		if open.end != reply.None {
			t.Errorf("%.300q is whole", short)
		}
		mustCome(t, head, most, []string{short}, open, sofar(head, most, short, true))
		for _, more := range []string{"x", "\r\n", "\n", s, "0\r\n\r\n", "\x00\xff"} {
			whole.rest = more
			mustCome(t, head, most, []string{text + more}, whole, whole)
			mustCome(t, head, most, []string{text, more}, whole, whole)
			mustCome(t, head, most, bytesOf(text+more), whole, whole)
		}
	}
}

// The chapter's examples.

func TestExamples(t *testing.T) {
	p := reply.New(false, 10)
	mustAdd(t, p, "HTTP/1.1 200 OK\r\nContent-Length: 3\r\n\r\nabcd", api.OK)
	mustHead(t, p, api.Answer{Status: 200, Fields: of("Content-Length", "3"), Length: 3})
	mustData(t, p, "abc")
	mustBe(t, p, reply.End)
	mustRest(t, p, "d")
}

// P14.1

func TestLine(t *testing.T) {
	for _, status := range []int{100, 101, 199, 200, 204, 304, 404, 499, 500, 599} {
		for minor := range 2 {
			s := fmt.Sprintf("HTTP/1.%d %d", minor, status)
			for _, reason := range []string{"", " ", "  ", " OK", " \t", " Not Found", "  x ", " 200", " caf\u00e9", " \xff\x80~!", " HTTP/1.1 200 OK"} {
				mustLine(t, s+reason, status, minor, true)
			}
			for _, reason := range []string{"\t", "\tOK", "OK", "-", ",", "0", ".", "\r", "\n", "\r\n", " \r", " \n", " OK\r\n", " \x00", " a\x7f", " a\x1fb", "\x00", "\xff", "\u00a0"} {
				mustLine(t, s+reason, 0, 0, false)
			}
		}
	}
	for _, s := range []string{
		"", " ", "  ", "200", " 200", "200 OK", "HTTP/1.1", "HTTP/1.1 ", "HTTP/1.1  ", "HTTP/1.1  200", "HTTP/1.1 2", "HTTP/1.1 20", "HTTP/1.1 20 ", "HTTP/1.1 20 0", "HTTP/1.1 2000",
		" HTTP/1.1 200", "HTTP/1.1\t200", "HTTP/1.1200", "HTTP/1.1\u00a0200", "HTTP/1.2 200", "HTTP/2.0 200", "HTTP/0.9 200", "HTTP/0.1 200", "HTTP/1 200", "HTTP/1. 200", "HTTP/11 200", "HTTP/1.10 200", "HTTP/1.01 200", "HTTP/01.1 200", "HTTP/1,1 200", "HTTP/1.1.1 200",
		"http/1.1 200", "Http/1.1 200", "HTTPS/1.1 200", "HTTP 1.1 200", "HTTP//1.1 200", "ICY 200", "HTTP/1.1 OK", "HTTP/1.1 OK 200", "HTTP/1.1 2x0", "HTTP/1.1 20x", "HTTP/1.1 x00", "HTTP/1.1 +20", "HTTP/1.1 -20", "HTTP/1.1 2.0", "HTTP/1.1 0x2", "HTTP/1.1 2e2", "HTTP/1.1 \u0662\u0660\u0660",
		"HTTP/1.1 000", "HTTP/1.1 099", "HTTP/1.1 0200", "HTTP/1.1 600", "HTTP/1.1 999", "GET / HTTP/1.1",
	} {
		mustLine(t, s, 0, 0, false)
	}
}

func TestAllStatuses(t *testing.T) {
	for n := range 10000 {
		for _, s := range []string{fmt.Sprint(n), fmt.Sprintf("%03d", n), fmt.Sprintf("%04d", n)} {
			is := len(s) == 3 && n >= 100 && n <= 599
			status, minor := 0, 0
			if is {
				status, minor = n, 1
			}
			mustLine(t, "HTTP/1.1 "+s, status, minor, is)
			mustLine(t, "HTTP/1.1 "+s+" x", status, minor, is)
			mustLine(t, "HTTP/1.0 "+s, status, 0, is)
		}
	}
}

func mustBeAsLine(t *testing.T, s string) {
	t.Helper()
	status, minor, is := line(s)
	mustLine(t, s, status, minor, is)
}

func TestBytesOfLines(t *testing.T) {
	for b := range 256 {
		s := oneByte(b)
		isText := b == 9 || b == 32 || b >= 0x21 && b <= 0x7e || b >= 0x80
		for _, reason := range []string{" " + s, " x" + s, " " + s + "x", " x" + s + "y"} {
			if isText {
				mustLine(t, "HTTP/1.0 404"+reason, 404, 0, true)
			} else {
				mustLine(t, "HTTP/1.0 404"+reason, 0, 0, false)
			}
		}
		for _, good := range []string{"HTTP/1.1 200 OK", "HTTP/1.0 100"} {
			for at := range len(good) + 1 {
				mustBeAsLine(t, good[:at]+s+good[at:])
				mustBeAsLine(t, good[:at]+s+good[min(at+1, len(good)):])
				mustBeAsLine(t, good[:at]+good[min(at+1, len(good)):])
				mustBeAsLine(t, good[:at])
			}
		}
	}
	long := strings.Repeat("OK \xff", 1<<18)
	mustLine(t, "HTTP/1.1 200 "+long, 200, 1, true)
	mustLine(t, "HTTP/1.1 200 "+long+"\x7f", 0, 0, false)
	mustLine(t, strings.Repeat(" ", 1<<20), 0, 0, false)
	mustLine(t, "HTTP/1.1 "+strings.Repeat("2", 1<<20), 0, 0, false)
}

func TestLineOfAllShortTexts(t *testing.T) {
	texts(6, []string{"HTTP/1.", "1", "0", " ", "200", "\t", "\x00"}, func(s string) { mustBeAsLine(t, s) })
}

// P14.2

func TestNothingHasCome(t *testing.T) {
	for _, head := range []bool{false, true} {
		p := reply.New(head, 10)
		for range 2 {
			mustBe(t, p, reply.None)
			mustAdd(t, p, "", api.OK)
		}
		p.Shut()
		mustBe(t, p, reply.Bad)
	}
}

func TestNil(t *testing.T) {
	var p *reply.Reply
	for _, s := range []string{"", ok + "Content-Length: 3\r\n\r\nabcd", "\n", strings.Repeat("x", api.MaxKeep+1)} {
		mustAdd(t, p, s, api.ErrNil)
		mustBe(t, p, reply.None)
		mustRest(t, p, "")
		p.Shut()
	}
}

// How much a body may have, told in each of the three ways.
func TestMostBytes(t *testing.T) {
	list := of("Content-Length", "0")
	for _, most := range []int{0, -1, -1000, math.MinInt} {
		mustBeWhole(t, false, most, ok+"Content-Length: 0\r\n\r\n", api.Answer{Status: 200, Fields: list}, "")
		mustBeNone(t, false, most, ok+"Content-Length: 1\r\n\r\n")
		mustBeWhole(t, false, most, ok+"Transfer-Encoding: chunked\r\n\r\n0\r\n\r\n", api.Answer{Status: 200, Fields: of("Transfer-Encoding", "chunked"), Chunks: true}, "")
		mustBeBad(t, false, most, ok+"Transfer-Encoding: chunked\r\n\r\n1\r\n", []api.Answer{{Status: 200, Fields: of("Transfer-Encoding", "chunked"), Chunks: true}}, "")
		mustBeBad(t, false, most, ok+"\r\nx", []api.Answer{{Status: 200, Length: -1, Close: true}}, "")
	}
	for _, most := range []int{1, 2, 9, 10, 1000} {
		body := strings.Repeat("x", most)
		mustBeWhole(t, false, most, fmt.Sprintf("%sContent-Length: %d\r\n\r\n%s", ok, most, body), api.Answer{Status: 200, Fields: of("Content-Length", fmt.Sprint(most)), Length: most}, body)
		mustBeNone(t, false, most, fmt.Sprintf("%sContent-Length: %d\r\n\r\n", ok, most+1))
		mustBeBad(t, false, most, ok+"\r\n"+body+"x", []api.Answer{{Status: 200, Length: -1, Close: true}}, body)
		mustBeWhole(t, false, most, ok+"Transfer-Encoding: chunked\r\n\r\n"+chunk.Write(body, 7), api.Answer{Status: 200, Fields: of("Transfer-Encoding", "chunked"), Chunks: true}, body)
		mustBeBad(t, false, most, ok+"Transfer-Encoding: chunked\r\n\r\n"+strings.TrimSuffix(chunk.Write(body, most), "0\r\n\r\n")+"1\r\n", []api.Answer{{Status: 200, Fields: of("Transfer-Encoding", "chunked"), Chunks: true}}, body)
	}
	for _, n := range []int{math.MaxInt, math.MaxInt - 1, 1 << 62, 1 << 40} {
		p := reply.New(false, n)
		length := min(n, 1<<62)
		mustAdd(t, p, fmt.Sprintf("%sContent-Length: %d\r\n\r\nabc", ok, length), api.OK)
		mustHead(t, p, api.Answer{Status: 200, Fields: of("Content-Length", fmt.Sprint(length)), Length: length})
		mustData(t, p, "abc")
		mustBe(t, p, reply.None)
		p.Shut()
		mustBe(t, p, reply.Bad)
		p = reply.New(false, n)
		mustAdd(t, p, ok+"\r\nabc", api.OK)
		mustHead(t, p, api.Answer{Status: 200, Length: -1, Close: true})
		mustData(t, p, "abc")
		p.Shut()
		mustBe(t, p, reply.End)
	}
}

func TestRoomOfAdd(t *testing.T) {
	for _, first := range []int{0, 1, 100, 1 << 13, api.MaxKeep - 1, api.MaxKeep} {
		p := reply.New(false, 10)
		mustAdd(t, p, strings.Repeat("x", first), api.OK)
		for _, more := range []int{1, 2, 1000, 1 << 20} {
			mustAdd(t, p, strings.Repeat("x", api.MaxKeep-first+more), api.ErrFull)
		}
		mustAdd(t, p, strings.Repeat("x", api.MaxKeep-first), api.OK)
		mustAdd(t, p, "", api.OK)
		mustAdd(t, p, "x", api.ErrFull)
		mustBe(t, p, reply.Bad)
	}
}

// What found no room hasn't come, not even its beginning.
func TestWhatFindsNoRoom(t *testing.T) {
	p := reply.New(false, 10)
	mustAdd(t, p, ok, api.OK)
	mustAdd(t, p, "\r\n"+strings.Repeat("x", api.MaxKeep), api.ErrFull)
	mustBe(t, p, reply.None)
	mustAdd(t, p, "Content-Length: 3\r\n\r\nab", api.OK)
	mustHead(t, p, api.Answer{Status: 200, Fields: of("Content-Length", "3"), Length: 3})
	mustAdd(t, p, strings.Repeat("c", api.MaxKeep), api.ErrFull)
	mustData(t, p, "ab")
	mustBe(t, p, reply.None)
	mustAdd(t, p, strings.Repeat("c", api.MaxKeep+1), api.ErrFull)
	mustAdd(t, p, "cd", api.OK)
	mustData(t, p, "c")
	mustBe(t, p, reply.End)
	mustRest(t, p, "d")
}

// room is how many bytes Add takes now. It fills them.
func room(p *reply.Reply) int {
	n := 0
	for by := api.MaxKeep; by > 0; {
		if p.Add(strings.Repeat("r", by)) == api.OK {
			n += by
		} else {
			by /= 2
		}
	}
	return n
}

func mustRoom(t *testing.T, p *reply.Reply, want int) {
	t.Helper()
	if n := room(p); n != want {
		t.Errorf("there was room for %d bytes, want %d", n, want)
	}
	mustAdd(t, p, "x", api.ErrFull)
	mustAdd(t, p, "", api.OK)
}

// Each of what was told makes room for as many bytes as it has, and nothing
// else does.
func TestWhatIsToldMakesRoom(t *testing.T) {
	start := func(s string, steps int) *reply.Reply {
		p := reply.New(false, 1<<20)
		mustAdd(t, p, s, api.OK)
		for range steps {
			p.Next()
		}
		return p
	}
	lengthHead := ok + "Content-Length: 5\r\n\r\n"
	endHead := ok + "\r\n"
	chunksHead := ok + "Transfer-Encoding: chunked\r\n\r\n"
	for _, c := range []struct {
		s     string
		steps int
		kept  int
	}{
		{lengthHead + "abcdefg", 0, len(lengthHead) + 7},
		{lengthHead + "abcdefg", 1, 7},
		{lengthHead + "abcdefg", 2, 2},
		{lengthHead + "abcdefg", 3, 2},
		{lengthHead + "abcdefg", 4, 2},
		{lengthHead + "abc", 2, 0},
		{lengthHead + "abc", 3, 0},
		{lengthHead[:20], 0, 20},
		{lengthHead[:20], 1, 20},
		{endHead + "abc", 1, 3},
		{endHead + "abc", 2, 0},
		{chunksHead + "3\r\nabc\r\n", 1, 8},
		{chunksHead + "3\r\nabc\r\n", 2, 0},
		{chunksHead + "3\r\nabc\r\n2", 2, 0},
		{chunksHead + "3;x", 2, 0},
		{chunksHead + "3\r\nabc\r\n0\r\n\r\nxyz", 1, 16},
		{chunksHead + "3\r\nabc\r\n0\r\n\r\nxyz", 2, 3},
		{chunksHead + "3\r\nabc\r\n0\r\n\r\nxyz", 3, 3},
		{chunksHead + "3\r\nabc\r\n0\r\n\r\nxyz", 4, 3},
		{chunksHead + "0\r\n\r\nxyz", 1, 8},
		{chunksHead + "0\r\n\r\nxyz", 2, 3},
		{goesOn + "HTTP", 0, len(goesOn) + 4},
		{goesOn + "HTTP", 1, 4},
		{goesOn + goesOn + "HTTP", 1, 4},
		{goesOn + lengthHead + "abc", 1, 3},
	} {
		mustRoom(t, start(c.s, c.steps), api.MaxKeep-c.kept)
	}
}

// Next tells, and a Shut or a Bad makes nothing come: what was told ahead of
// it stays all there is.
func TestAddBehindBad(t *testing.T) {
	for _, s := range []string{"\n", "nothing\r\n\r\n", "HTTP/1.1 101\r\n\r\n", ok + "Content-Length: 11\r\n\r\n", ok + "Transfer-Encoding: chunked\r\n\r\n\r\n"} {
		p := reply.New(false, 10)
		mustAdd(t, p, s, api.OK)
		mustAdd(t, p, "more", api.OK)
		for range 2 {
			if kind, _, _ := p.Next(); kind == reply.Bad {
				break
			}
		}
		for range 10 {
			mustAdd(t, p, "", api.OK)
			mustAdd(t, p, strings.Repeat("\r\n", 5000), api.OK)
			mustBe(t, p, reply.Bad)
			mustAdd(t, p, strings.Repeat("x", api.MaxKeep+1), api.ErrFull)
			p.Shut()
		}
	}
}

func TestAddBehindShut(t *testing.T) {
	for _, s := range []string{"", ok, ok + "Content-Length: 3\r\n\r\nab", ok + "Transfer-Encoding: chunked\r\n\r\n3\r\nab", ok + "\r\nab", ok + "Content-Length: 2\r\n\r\nab"} {
		p := reply.New(false, 10)
		mustAdd(t, p, s, api.OK)
		p.Shut()
		for range 10 {
			mustAdd(t, p, "", api.OK)
			mustAdd(t, p, strings.Repeat("x", 10000), api.OK)
			mustAdd(t, p, strings.Repeat("x", api.MaxKeep+1), api.ErrFull)
		}
		want := sofar(false, 10, s, true)
		var got all
		drain(t, p, &got)
		mustBeAll(t, []string{s}, got, want)
		mustAdd(t, p, "c\r\n0\r\n\r\n", api.OK)
		drain(t, p, &got)
		mustBeAll(t, []string{s, "more"}, got, want)
	}
}

// Behind an End more may come: all of it is the rest.
func TestAddBehindEnd(t *testing.T) {
	for _, s := range []string{ok + "Content-Length: 3\r\n\r\nabc", ok + "Transfer-Encoding: chunked\r\n\r\n3\r\nabc\r\n0\r\n\r\n", "HTTP/1.1 204\r\n\r\n"} {
		p := reply.New(false, 10)
		mustAdd(t, p, s+"r", api.OK)
		for range 3 {
			p.Next()
		}
		mustBe(t, p, reply.End)
		mustRest(t, p, "r")
		mustAdd(t, p, "st", api.OK)
		mustBe(t, p, reply.End)
		mustRest(t, p, "rst")
		mustAdd(t, p, strings.Repeat("x", api.MaxKeep-2), api.ErrFull)
		mustRest(t, p, "rst")
		mustAdd(t, p, strings.Repeat("x", api.MaxKeep-3), api.OK)
		mustAdd(t, p, "x", api.ErrFull)
		mustBe(t, p, reply.End)
		mustRest(t, p, "rst"+strings.Repeat("x", api.MaxKeep-3))
		p.Shut()
		mustBe(t, p, reply.End)
		mustRest(t, p, "rst"+strings.Repeat("x", api.MaxKeep-3))
	}
	p := reply.New(true, 10)
	mustAdd(t, p, ok+"\r\n", api.OK)
	mustHead(t, p, api.Answer{Status: 200})
	mustBe(t, p, reply.End)
	p.Shut()
	mustAdd(t, p, "x", api.OK)
	mustRest(t, p, "")
}

// Many bytes may come in all, if they are told in between.
func TestBodiesLongerThanTheRoom(t *testing.T) {
	piece := strings.Repeat("x", 1<<14)
	p := reply.New(false, 1<<20)
	mustAdd(t, p, ok+"Content-Length: 1048576\r\n\r\n", api.OK)
	mustHead(t, p, api.Answer{Status: 200, Fields: of("Content-Length", "1048576"), Length: 1 << 20})
	for range 64 {
		mustBe(t, p, reply.None)
		mustAdd(t, p, piece, api.OK)
		mustData(t, p, piece)
	}
	mustBe(t, p, reply.End)
	p = reply.New(false, 1<<20)
	mustAdd(t, p, ok+"\r\n", api.OK)
	mustHead(t, p, api.Answer{Status: 200, Length: -1, Close: true})
	for range 64 {
		mustAdd(t, p, piece, api.OK)
		mustData(t, p, piece)
		mustBe(t, p, reply.None)
	}
	p.Shut()
	mustBe(t, p, reply.End)
	// A body of few bytes may come in chunks that have very many.
	p = reply.New(false, 4096)
	mustAdd(t, p, ok+"Transfer-Encoding: chunked\r\n\r\n", api.OK)
	mustHead(t, p, api.Answer{Status: 200, Fields: of("Transfer-Encoding", "chunked"), Chunks: true})
	for range 4096 {
		mustAdd(t, p, "1;"+strings.Repeat("y", 252)+"\r\nz\r\n", api.OK)
		mustData(t, p, "z")
		mustBe(t, p, reply.None)
	}
	mustAdd(t, p, "0\r\n\r\n"+strings.Repeat("x", api.MaxKeep-5), api.OK)
	mustBe(t, p, reply.End)
	mustRest(t, p, strings.Repeat("x", api.MaxKeep-5))
}

// What is passed over makes room, too, be it longer in all than what may wait.
func TestLongHeadsThatArePassedOver(t *testing.T) {
	long := "HTTP/1.1 103\r\nA: " + strings.Repeat("x", api.MaxHead-21) + "\r\n\r\n"
	if len(long) != api.MaxHead {
		t.Fatal(len(long))
	}
	p := reply.New(false, 10)
	for range 5 {
		mustAdd(t, p, long, api.OK)
		mustBe(t, p, reply.None)
	}
	mustAdd(t, p, ok+"Content-Length: 1\r\n\r\nx", api.OK)
	mustHead(t, p, api.Answer{Status: 200, Fields: of("Content-Length", "1"), Length: 1})
	mustData(t, p, "x")
	mustBe(t, p, reply.End)
}

// P14.3

func TestHeads(t *testing.T) {
	chunks := "3\r\nabc\r\n0\r\n\r\n"
	for _, c := range []struct {
		s      string
		answer api.Answer
		data   string
	}{
		{"HTTP/1.1 200 OK\r\nContent-Length: 0\r\n\r\n", api.Answer{Status: 200, Fields: of("Content-Length", "0")}, ""},
		{"HTTP/1.1 200\r\ncontent-LENGTH:3\r\n\r\nabc", api.Answer{Status: 200, Fields: of("content-LENGTH", "3"), Length: 3}, "abc"},
		{"HTTP/1.0 404 \r\nContent-Length: 3\r\n\r\n\r\n\n", api.Answer{Status: 404, Fields: of("Content-Length", "3"), Length: 3, Close: true}, "\r\n\n"},
		{"HTTP/1.0 500 x y\r\nContent-Length: 1\r\nConnection: Keep-Alive\r\n\r\n0", api.Answer{Status: 500, Fields: of("Content-Length", "1", "Connection", "Keep-Alive"), Length: 1}, "0"},
		{"HTTP/1.1 599 \xff\r\nContent-Length: 1\r\nConnection: a, CLOSE\r\n\r\n\x00", api.Answer{Status: 599, Fields: of("Content-Length", "1", "Connection", "a, CLOSE"), Length: 1, Close: true}, "\x00"},
		{"HTTP/1.1 206 OK\r\nA: b\r\nTransfer-Encoding: chunked\r\na: \t c \r\n\r\n" + chunks, api.Answer{Status: 206, Fields: of("A", "b", "Transfer-Encoding", "chunked", "a", "c"), Chunks: true}, "abc"},
		{"HTTP/1.0 200 OK\r\ntransfer-encoding: CHUNKED\r\n\r\n" + chunks, api.Answer{Status: 200, Fields: of("transfer-encoding", "CHUNKED"), Chunks: true, Close: true}, "abc"},
		{"HTTP/1.1 200 OK\r\nTransfer-Encoding: chunked\r\nConnection: close\r\n\r\n" + chunks, api.Answer{Status: 200, Fields: of("Transfer-Encoding", "chunked", "Connection", "close"), Chunks: true, Close: true}, "abc"},
		{"HTTP/1.1 204 OK\r\n\r\n", api.Answer{Status: 204}, ""},
		{"HTTP/1.0 304 OK\r\nETag: x\r\n\r\n", api.Answer{Status: 304, Fields: of("ETag", "x"), Close: true}, ""},
		{"HTTP/1.1 205 OK\r\nContent-Length: 2\r\n\r\nab", api.Answer{Status: 205, Fields: of("Content-Length", "2"), Length: 2}, "ab"},
		{"HTTP/1.1 303 OK\r\nContent-Length: 2\r\n\r\nab", api.Answer{Status: 303, Fields: of("Content-Length", "2"), Length: 2}, "ab"},
	} {
		mustBeWhole(t, false, 10, c.s, c.answer, c.data)
	}
}

// Step by step, whatever has come already.
func TestStepByStep(t *testing.T) {
	p := reply.New(false, 10)
	mustAdd(t, p, goesOn+ok+"Content-Length: 5\r\n", api.OK)
	mustBe(t, p, reply.None)
	mustAdd(t, p, "\r\nab", api.OK)
	mustHead(t, p, api.Answer{Status: 200, Fields: of("Content-Length", "5"), Length: 5})
	mustAdd(t, p, "c", api.OK)
	mustData(t, p, "abc")
	mustBe(t, p, reply.None)
	mustAdd(t, p, "d", api.OK)
	mustData(t, p, "d")
	mustBe(t, p, reply.None)
	mustAdd(t, p, "efg", api.OK)
	mustData(t, p, "e")
	mustAdd(t, p, "h", api.OK)
	mustBe(t, p, reply.End)
	mustRest(t, p, "fgh")

	p = reply.New(false, 10)
	mustAdd(t, p, ok+"Transfer-Encoding: chunked\r\n\r\n2\r", api.OK)
	mustHead(t, p, api.Answer{Status: 200, Fields: of("Transfer-Encoding", "chunked"), Chunks: true})
	mustBe(t, p, reply.None)
	mustAdd(t, p, "\na", api.OK)
	mustData(t, p, "a")
	mustAdd(t, p, "b\r\n3\r\ncde\r\n1\r\n", api.OK)
	mustData(t, p, "bcde")
	mustBe(t, p, reply.None)
	mustAdd(t, p, "f\r\n0\r\nA: b\r\n\r\nx", api.OK)
	mustData(t, p, "f")
	mustAdd(t, p, "y", api.OK)
	mustBe(t, p, reply.End)
	mustRest(t, p, "xy")

	p = reply.New(false, 10)
	mustAdd(t, p, ok+"\r\n0123456789", api.OK)
	mustHead(t, p, api.Answer{Status: 200, Length: -1, Close: true})
	mustData(t, p, "0123456789")
	mustBe(t, p, reply.None)
	p.Shut()
	mustBe(t, p, reply.End)
	mustRest(t, p, "")
}

// A body of a length, to the end, or in chunks, when it is shut at each place.
func TestShut(t *testing.T) {
	for _, s := range []string{goesOn + ok + "Content-Length: 3\r\n\r\nabcd", ok + "\r\nabcd", ok + "Transfer-Encoding: chunked\r\n\r\n3\r\nabc\r\n0\r\nA: b\r\n\r\nx", "HTTP/1.1 304\r\n\r\nx"} {
		for _, head := range []bool{false, true} {
			for at := range len(s) + 1 {
				mustCome(t, head, 4, []string{s[:at]}, sofar(head, 4, s[:at], false), sofar(head, 4, s[:at], true))
			}
		}
	}
	// A body to the end of the connection that has more bytes than may be isn't
	// whole, though it is shut ahead of its last data.
	p := reply.New(false, 3)
	mustAdd(t, p, ok+"\r\nabc", api.OK)
	mustHead(t, p, api.Answer{Status: 200, Length: -1, Close: true})
	mustAdd(t, p, "d", api.OK)
	p.Shut()
	mustData(t, p, "abc")
	mustBe(t, p, reply.Bad)
	// One that is empty is whole.
	p = reply.New(false, 3)
	mustAdd(t, p, ok+"\r\n", api.OK)
	p.Shut()
	mustHead(t, p, api.Answer{Status: 200, Length: -1, Close: true})
	mustBe(t, p, reply.End)
	// What is whole stays it.
	p = reply.New(false, 3)
	mustAdd(t, p, ok+"Content-Length: 1\r\n\r\nab", api.OK)
	mustHead(t, p, api.Answer{Status: 200, Fields: of("Content-Length", "1"), Length: 1})
	mustData(t, p, "a")
	mustBe(t, p, reply.End)
	p.Shut()
	mustBe(t, p, reply.End)
	mustRest(t, p, "b")
}

// Those of no body: what they tell of one isn't waited for.
func TestBodyless(t *testing.T) {
	for fields, length := range map[string]int{
		"": 0, "Content-Length: 0\r\n": 0, "Content-Length: 9\r\n": 9, "Content-Length: 1048576\r\n": 1 << 20, "Content-Length: 1048577\r\n": 0, "content-length: 11\r\n": 11,
		"Content-Length: 9223372036854775808\r\n": 0, "Content-Length: 99999999999999999999\r\n": 0, "Content-Length: x\r\n": 0, "Content-Length: 007\r\n": 0, "Content-Length: -7\r\n": 0, "Content-Length:\r\n": 0, "Content-Length: 7, 7\r\n": 0,
		"Content-Length: 7\r\nContent-Length: 7\r\n": 0, "Content-Length: 7\r\nTransfer-Encoding: chunked\r\n": 0, "Transfer-Encoding: gzip\r\nContent-Length: 7\r\n": 0, "Transfer-Encoding: chunked\r\n": 0, "Transfer-Encoding: gzip\r\n": 0, "Transfer-Encoding: chunked\r\nTransfer-Encoding: chunked\r\n": 0,
	} {
		for minor := range 2 {
			for _, close := range []string{"", "Connection: close\r\n", "Connection: keep-alive\r\n"} {
				for status, bodyless := range map[int]bool{204: true, 304: true, 200: false, 502: false} {
					s := fmt.Sprintf("HTTP/1.%d %d\r\n%s%s\r\n", minor, status, fields, close)
					_, list, _, _ := field.Split(s)
					want := api.Answer{Status: status, Fields: list, Length: length, Close: close == "Connection: close\r\n" || close == "" && minor == 0}
					whole := all{heads: []api.Answer{want}, end: reply.End, rest: "abc"}
					for _, most := range []int{0, 10, 1 << 21} {
						mustCome(t, true, most, []string{goesOn + s + "abc"}, whole, whole)
						if bodyless {
							mustCome(t, false, most, []string{goesOn + s + "abc"}, whole, whole)
						}
					}
					mustBeWhole(t, !bodyless, 10, s, want, "")
				}
			}
		}
	}
}

// What is passed over.
func TestPassedOver(t *testing.T) {
	final := ok + "Content-Length: 1\r\n\r\nx"
	answer := api.Answer{Status: 200, Fields: of("Content-Length", "1"), Length: 1}
	for status := 100; status < 600; status++ {
		head := fmt.Sprintf("HTTP/1.1 %d\r\n", status)
		s := head + "\r\n"
		switch {
		case status == 101:
			mustBeBad(t, false, 10, s, nil, "")
		case status < 200:
			for n := range 6 {
				text := strings.Repeat(s, n)
				mustCome(t, false, 10, []string{text}, all{}, all{end: reply.Bad})
				mustCome(t, false, 10, []string{text + final}, all{heads: []api.Answer{answer}, data: "x", end: reply.End}, all{heads: []api.Answer{answer}, data: "x", end: reply.End})
			}
			mustBeBad(t, false, 10, strings.Repeat(s, 6), nil, "")
			mustBeBad(t, true, 10, strings.Repeat(s, 6), nil, "")
		default:
			p := reply.New(false, 10)
			mustAdd(t, p, s, api.OK)
			if kind, a, _ := p.Next(); kind != reply.Head || a.Status != status {
				t.Errorf("%q: %d, %+v", s, kind, a)
			}
		}
	}
	// Their fields aren't asked for a body, nor for an end of the connection.
	for _, fields := range []string{"Content-Length: 5\r\n", "Content-Length: x\r\n", "Content-Length: 99999999999\r\n", "Transfer-Encoding: chunked\r\n", "Transfer-Encoding: gzip\r\nContent-Length: 5\r\n", "Connection: close\r\n"} {
		for _, head := range []bool{false, true} {
			data := "x"
			if head {
				data = ""
			}
			for _, s := range []string{"HTTP/1.1 100\r\n", "HTTP/1.0 199 x\r\n", "HTTP/1.1 102 \r\n"} {
				text := s + fields + "\r\n" + ok + "Content-Length: 1\r\n\r\n" + data
				mustBeWhole(t, head, 10, text[len(s+fields)+2:], answer, data)
				whole := all{heads: []api.Answer{answer}, data: data, end: reply.End}
				mustCome(t, head, 10, []string{text}, whole, whole)
				mustCome(t, head, 10, bytesOf(text), whole, whole)
			}
		}
	}
	// Heads that are none aren't passed over.
	for n := range 6 {
		for _, s := range []string{"HTTP/1.1 100\r\nA : b\r\n", "HTTP/1.1 100\r\n\n", "HTTP/1.1 100\n", "\r\n", "HTTP/1.1 101\r\n\r\n", "HTTP/1.1 099\r\n\r\n", "HTTP/1.2 100\r\n\r\n"} {
			mustBeBad(t, false, 10, strings.Repeat(goesOn, n)+s, nil, "")
		}
	}
}

func TestHeadsThatAreNone(t *testing.T) {
	for _, head := range []bool{false, true} {
		for _, s := range []string{
			// Split's errors are to be seen at the end of a line.
			"\n", "\r\n", "HTTP/1.1 200 OK\n", "HTTP/1.1 200 O\rK\r\n", ok + "A : b\r\n", ok + " A: b\r\n", ok + "A\r\n", ok + ": b\r\n", ok + "A: \x00\r\n", ok + "A: b\n", ok + "\n", ok + "A: b\r\r\n",
			ok + strings.Repeat("A:\r\n", 33), "HTTP/1.1 200 " + strings.Repeat("x", api.MaxStart-12) + "\r\n", strings.Repeat("x", api.MaxHead), ok + "A: " + strings.Repeat("x", api.MaxHead-len(ok)-3), ok + "A: " + strings.Repeat("x", api.MaxHead-len(ok)-5) + "\r\n",
			ok + "A: " + strings.Repeat("x", api.MaxHead-len(ok)-6) + "\r\n\r",
			// Others at the end of the head.
			"nothing\r\n\r\n", "GET / HTTP/1.1\r\n\r\n", "HTTP/1.1\r\n\r\n", "HTTP/1.1 \r\n\r\n", "HTTP/1.1 20\r\n\r\n", "HTTP/1.1 2000\r\n\r\n", "HTTP/1.1 600\r\n\r\n", "HTTP/1.1 000\r\n\r\n", "HTTP/2.0 200\r\n\r\n", "HTTP/1.2 200 OK\r\n\r\n", "http/1.1 200 OK\r\n\r\n", "HTTP/1.1 200\tOK\r\n\r\n", "HTTP/1.1 200 \x00\r\n\r\n", " HTTP/1.1 200 OK\r\n\r\n", "HTTP/1.1 204\x01\r\n\r\n",
			"HTTP/1.1 101 Switching Protocols\r\n\r\n", "HTTP/1.0 101\r\nUpgrade: x\r\n\r\n",
		} {
			mustBeNone(t, head, 10, s)
		}
	}
	long := "HTTP/1.1 200 " + strings.Repeat("x", api.MaxStart-13) + "\r\n"
	mustBeWhole(t, true, 10, long+"\r\n", api.Answer{Status: 200}, "")
	mustBeWhole(t, true, 10, ok+strings.Repeat("A:\r\n", 32)+"\r\n", api.Answer{Status: 200, Fields: slices.Repeat(of("A", ""), 32)}, "")
	value := strings.Repeat("x", api.MaxHead-len(ok)-7)
	mustBeWhole(t, true, 10, ok+"A: "+value+"\r\n\r\n", api.Answer{Status: 200, Fields: of("A", value)}, "")
}

func TestFrames(t *testing.T) {
	for _, fields := range []string{
		"Content-Length:\r\n", "Content-Length: x\r\n", "Content-Length: -1\r\n", "Content-Length: +1\r\n", "Content-Length: 01\r\n", "Content-Length: 1 1\r\n", "Content-Length: 0x1\r\n", "Content-Length: 5, 5\r\n", "Content-Length: 5\r\ncontent-length: 5\r\n", "Content-Length: 0\r\nContent-Length: 0\r\n",
		"Content-Length: 11\r\n", "Content-Length: 1000\r\n", "Content-Length: 1048577\r\n", "Content-Length: 9223372036854775807\r\n", "Content-Length: 9223372036854775808\r\n", "Content-Length: 18446744073709551616\r\n",
		"Transfer-Encoding: gzip\r\n", "Transfer-Encoding: gzip, chunked\r\n", "Transfer-Encoding: chunked, chunked\r\n", "Transfer-Encoding:\r\n", "Transfer-Encoding: identity\r\n",
		"Transfer-Encoding: chunked\r\nTransfer-Encoding: chunked\r\n", "Transfer-Encoding: chunked\r\nContent-Length: 0\r\n", "Content-Length: 5\r\nTransfer-Encoding: chunked\r\n",
	} {
		for _, start := range []string{ok, "HTTP/1.0 404 x\r\n", "HTTP/1.1 205\r\n", "HTTP/1.1 599\r\n"} {
			mustBeNone(t, false, 10, start+fields+"\r\n")
			mustBeNone(t, false, 10, start+fields+"Connection: close\r\n\r\n")
		}
	}
}

func TestBodiesOfALength(t *testing.T) {
	for _, n := range []int{1, 2, 7, 256, 257, 2000} {
		head := fmt.Sprintf("%sContent-Length: %d\r\n\r\n", ok, n)
		answer := api.Answer{Status: 200, Fields: of("Content-Length", fmt.Sprint(n)), Length: n}
		for _, piece := range []string{"x", "\r\n\r\n", goesOn, "\x00\xff\n", "0\r\n\r\n"} {
			mustBeWhole(t, false, n, head+strings.Repeat(piece, n)[:n], answer, strings.Repeat(piece, n)[:n])
		}
	}
}

func TestBodiesInChunks(t *testing.T) {
	head := ok + "Transfer-Encoding: chunked\r\n\r\n"
	answer := api.Answer{Status: 200, Fields: of("Transfer-Encoding", "chunked"), Chunks: true}
	for _, n := range []int{0, 1, 2, 4096} {
		body := strings.Repeat("\r\n0\r\n\r\n", n)[:n]
		for _, by := range []int{7, 256, 4096} {
			mustBeWhole(t, false, n, head+chunk.Write(body, by), answer, body)
		}
	}
	mustBeWhole(t, false, 10, head+"03;x=y\r\nabc\r\n7 \r\n0123456\r\n0000 \t\r\nA: b\r\nc:\r\n\r\n", answer, "abc0123456")
	for _, s := range []string{"\r\n", "z\r\n", "1\n", "1\r\nab", "1\r\na\n", "1\r\na\rx", "0\r\nA\r\n", "0\r\n\n", "00000000000000001\r\n", strings.Repeat("0", 256), "0x1\r\n", "-1\r\n", "8\r\n", "ffffffffffffffff\r\n", "0\r\n" + strings.Repeat("A:\r\n", 17), "7\r\n0123456\r\n1\r\n"} {
		data := sofar(false, 10, head+s, false).data
		mustBeBad(t, false, 7, head+s, []api.Answer{answer}, data)
		mustBeBad(t, false, 10, head+"3\r\nabc\r\n"+s, []api.Answer{answer}, "abc"+data)
	}
}

// Data that came ahead of what is wrong is told first.
func TestDataAheadOfBad(t *testing.T) {
	p := reply.New(false, 10)
	mustAdd(t, p, ok+"Transfer-Encoding: chunked\r\n\r\n3\r\nabc\r\n", api.OK)
	mustHead(t, p, api.Answer{Status: 200, Fields: of("Transfer-Encoding", "chunked"), Chunks: true})
	mustAdd(t, p, "2\r\ndex", api.OK)
	mustAdd(t, p, "more", api.OK)
	mustData(t, p, "abcde")
	mustAdd(t, p, "\r\n", api.OK)
	mustBe(t, p, reply.Bad)
	p = reply.New(false, 3)
	mustAdd(t, p, ok+"\r\nabcd", api.OK)
	mustHead(t, p, api.Answer{Status: 200, Length: -1, Close: true})
	mustData(t, p, "abc")
	mustAdd(t, p, "e", api.OK)
	mustBe(t, p, reply.Bad)
	mustAdd(t, p, "f", api.OK)
	p.Shut()
	mustBe(t, p, reply.Bad)
}

// P14.4

// cutUp is a text in parts of at most so many bytes.
func cutUp(r *rand.Rand, s string, most int) []string {
	var parts []string
	for s != "" {
		n := min(r.Intn(most+1), len(s))
		parts = append(parts, s[:n])
		s = s[n:]
	}
	return parts
}

var pieces = []string{
	ok + "Content-Length: 3\r\n\r\n", ok + "Transfer-Encoding: chunked\r\n\r\n", ok + "\r\n", "HTTP/1.0 404\r\nContent-Length: 10\r\n\r\n", "HTTP/1.1 304\r\nContent-Length: 99\r\n\r\n",
	"3\r\nabc\r\n", "0\r\n\r\n", "abc", "0123456789", "b\r\n", "0\r\nA: b\r\n", goesOn, "HTTP/1.1 103\r\nA: b\r\nContent-Length: 5\r\n\r\n", "HTTP/1.1 101\r\n\r\n",
	ok, "HTTP/1.0 200\r\n", "\r\n", "\n", "x", "Content-Length: ", "10", "11", "Transfer-Encoding: chunked\r\n", "Connection: close\r\n", "A: b\r\n", " ", "5;x=y\r\n01234\r\n",
}

// someText is a response, more or less.
func someText(r *rand.Rand) string {
	s := strings.Repeat(goesOn, max(0, r.Intn(12)-5))
	if r.Intn(5) > 0 {
		s += pieces[r.Intn(5)]
	}
	for range r.Intn(8) {
		if r.Intn(3) > 0 {
			s += pieces[5+r.Intn(6)]
		} else {
			s += pieces[r.Intn(len(pieces))]
		}
	}
	return s
}

// mustBeAsModel holds what a text comes to in these parts against the second
// way.
func mustBeAsModel(t *testing.T, head bool, most int, parts []string) {
	t.Helper()
	s := strings.Join(parts, "")
	mustCome(t, head, most, parts, sofar(head, most, s, false), sofar(head, most, s, true))
}

func TestAllShortTexts(t *testing.T) {
	some := []string{"HTTP/1.1 200\r\n", "HTTP/1.1 100\r\n", "\r\n", "Content-Length: 2\r\n", "Transfer-Encoding: chunked\r\n", "0\r\n", "a"}
	count := make(map[string]int)
	texts(6, some, func(s string) {
		mustBeAsModel(t, false, 2, []string{s})
		want := sofar(false, 2, s, false)
		count[fmt.Sprint(len(want.heads), want.data != "", want.end, want.rest != "")]++
	})
	for _, kind := range []string{"0 false 0 false", "0 false 4 false", "1 false 0 false", "1 true 0 false", "1 true 4 false", "1 false 4 false", "1 true 3 false", "1 true 3 true", "1 false 3 false", "1 false 3 true"} {
		if count[kind] == 0 {
			t.Errorf("of %q there is none: %v", kind, count)
		}
	}
}

func TestManyTextsInManyCuts(t *testing.T) {
	r := rand.New(rand.NewSource(14))
	count := make(map[string]int)
	for range 6000 {
		s := someText(r)
		head := r.Intn(4) == 0
		for _, most := range []int{1, 3, 20, 300} {
			mustBeAsModel(t, head, 10, cutUp(r, s, most))
		}
		mustBeAsModel(t, head, 10, bytesOf(s))
		want := sofar(head, 10, s, false)
		count[fmt.Sprint(len(want.heads), want.data != "", want.end, want.rest != "")]++
	}
	for _, kind := range []string{"0 false 0 false", "0 false 4 false", "1 false 0 false", "1 true 0 false", "1 true 4 false", "1 false 4 false", "1 true 3 false", "1 true 3 true", "1 false 3 false", "1 false 3 true"} {
		if count[kind] < 5 {
			t.Errorf("of %q there are but few: %v", kind, count)
		}
	}
}

func TestAllCutsInTwo(t *testing.T) {
	for _, s := range []string{
		goesOn + goesOn + ok + "Content-Length: 3\r\n\r\nabcd", ok + "Transfer-Encoding: chunked\r\n\r\n3;x\r\nabc\r\n0\r\nA: b\r\n\r\nx", ok + "Transfer-Encoding: chunked\r\n\r\n3\r\nabc\r\nb\r\n", ok + "\r\n0123456789", ok + "\r\n0123456789a", goesOn + ok + "Content-Length: 11\r\n\r\n", strings.Repeat("HTTP/1.1 100\r\n\r\n", 6),
	} {
		for at := range len(s) + 1 {
			mustBeAsModel(t, false, 10, []string{s[:at], s[at:]})
			mustBeAsModel(t, true, 10, []string{s[:at], s[at:]})
		}
	}
}

// Next may be asked at any time, and not at all for a while.
func TestAddAndNextInAnyTurns(t *testing.T) {
	r := rand.New(rand.NewSource(4))
	for range 6000 {
		s := someText(r)
		head := r.Intn(4) == 0
		p := reply.New(head, 10)
		var got all
		next := func() {
			kind, answer, data := p.Next()
			switch kind {
			case reply.Head:
				got.heads = append(got.heads, answer)
			case reply.Data:
				got.data += data
			}
		}
		for _, part := range cutUp(r, s, 60) {
			mustAdd(t, p, part, api.OK)
			for range r.Intn(3) {
				next()
			}
		}
		for range 3 {
			next()
		}
		drain(t, p, &got)
		mustBeAll(t, []string{s}, got, sofar(head, 10, s, false))
	}
}

// The rules that hold everywhere.

// shares: whether two texts have memory in common.
func shares(a, b string) bool {
	if a == "" || b == "" {
		return false
	}
	startA, startB := uintptr(unsafe.Pointer(unsafe.StringData(a))), uintptr(unsafe.Pointer(unsafe.StringData(b)))
	return startA < startB+uintptr(len(b)) && startB < startA+uintptr(len(a))
}

func TestAnswersAreNewMemory(t *testing.T) {
	for _, body := range []string{"Content-Length: 3\r\n\r\nabcdefg", "Transfer-Encoding: chunked\r\n\r\n3\r\nabc\r\n0\r\n\r\ndefg"} {
		text := strings.Clone(ok + "Name: value\r\n" + body)
		p := reply.New(false, 10)
		p.Add(text)
		_, answer, _ := p.Next()
		_, _, data := p.Next()
		p.Next()
		rest, again := p.Rest(), p.Rest()
		list := []string{text, answer.Fields[0].Name, answer.Fields[0].Value, answer.Fields[1].Value, data, rest, again}
		for i, a := range list {
			for _, b := range list[:i] {
				if shares(a, b) {
					t.Errorf("%q and %q share memory", a, b)
				}
			}
		}
	}
}

// What is answered stays as it is, whatever is done then, and what is handed
// in may become something else.
func TestNothingThatIsHandedInIsKept(t *testing.T) {
	room := make([]byte, 0, 400)
	var p *reply.Reply
	add := func(s string) {
		room = append(room[:0], s...)
		mustAdd(t, p, unsafe.String(unsafe.SliceData(room), len(room)), api.OK)
		for i := range room {
			room[i] = '?'
		}
	}
	for _, c := range [][3]string{
		{"Content-Length: 7\r\n\r\nabcd", "efghi", "j"}, {"Transfer-Encoding: chunked\r\n\r\n4\r\nabcd\r", "\n3\r\nefg\r\n0\r\n\r\nhi", "j"},
	} {
		p = reply.New(false, 10)
		add(goesOn + "HTTP/1.1 20")
		mustBe(t, p, reply.None)
		add("0 OK\r\nA: b\r\n")
		add(c[0])
		_, answer, _ := p.Next()
		_, _, one := p.Next()
		add(c[1])
		_, _, two := p.Next()
		p.Next()
		rest := p.Rest()
		add(c[2])
		if answer.Status != 200 || answer.Fields[0] != (api.Field{Name: "A", Value: "b"}) || one != "abcd" || two != "efg" || rest != "hi" {
			t.Errorf("%+v, %q, %q, %q", answer, one, two, rest)
		}
		answer.Fields[0].Value = "other"
		mustBe(t, p, reply.End)
		mustRest(t, p, "hij")
	}
}

func TestRepliesStandApart(t *testing.T) {
	one, two := reply.New(false, 10), reply.New(true, 3)
	mustAdd(t, one, ok+"Content-Length: 3\r\n", api.OK)
	mustAdd(t, two, ok+"Content-Length: 4\r\n", api.OK)
	mustBe(t, one, reply.None)
	mustAdd(t, two, "\r\n", api.OK)
	mustHead(t, two, api.Answer{Status: 200, Fields: of("Content-Length", "4"), Length: 4})
	two.Shut()
	mustBe(t, two, reply.End)
	mustAdd(t, one, "\r\nabc", api.OK)
	mustHead(t, one, api.Answer{Status: 200, Fields: of("Content-Length", "3"), Length: 3})
	mustData(t, one, "abc")
	mustBe(t, one, reply.End)
	mustBe(t, reply.New(false, 10), reply.None)
}

// Many bytes: what takes steps for each pair of them would never end.

func TestLongTextsByteByByte(t *testing.T) {
	head := "HTTP/1.1 103\r\n" + strings.Repeat("A: "+strings.Repeat("b", 115)+"\r\n", 32) + "\r\n"
	body := strings.Repeat("x", 200000)
	for _, s := range []string{
		ok + "Content-Length: 200000\r\n\r\n" + body, ok + "\r\n" + body, ok + "Transfer-Encoding: chunked\r\n\r\n" + chunk.Write(body, 1), ok + "Transfer-Encoding: chunked\r\n\r\n" + chunk.Write(body, 1<<20),
	} {
		p := reply.New(false, 200000)
		got := 0
		s = strings.Repeat(head, 5) + s
		for i := range len(s) {
			if e := p.Add(s[i : i+1]); e != api.OK {
				t.Fatal(e)
			}
			_, _, data := p.Next()
			got += len(data)
		}
		p.Shut()
		if got != len(body) {
			t.Error(got)
		}
		mustBe(t, p, reply.End)
	}
}

// A head of which nothing more has come isn't gone through once more, and
// neither is one of which no line more has ended.
func TestWhatWasReadIsNotReadAgain(t *testing.T) {
	p := reply.New(false, 10)
	next := func() { p.Next() }
	for range 3 {
		mustAdd(t, p, "HTTP/1.1 100\r\nA: "+strings.Repeat("b", 3000), api.OK)
		next()
		for range 3 {
			if n := testing.AllocsPerRun(10, next); n > 0 {
				t.Errorf("%v pieces of memory for nothing", n)
			}
			mustAdd(t, p, "c", api.OK)
		}
		mustAdd(t, p, "\r\n\r\n", api.OK)
		mustBe(t, p, reply.None)
	}
	mustAdd(t, p, ok+"\r\n", api.OK)
	mustHead(t, p, api.Answer{Status: 200, Length: -1, Close: true})
}

// P1, and all answers held against the second way of working them out.

func FuzzNext(f *testing.F) {
	for i, s := range pieces {
		f.Add(s, i%2 == 0, int64(i))
	}
	f.Add(goesOn+pieces[0]+"abcd", false, int64(1))
	f.Add(goesOn+pieces[1]+pieces[5]+pieces[6], false, int64(1))
	f.Add(strings.Repeat("x", 5000), false, int64(2))
	f.Fuzz(func(t *testing.T, s string, head bool, seed int64) {
		r := rand.New(rand.NewSource(seed))
		most := r.Intn(20)
		mustBeAsModel(t, head, most, cutUp(r, s, 1+r.Intn(100)))
		mustBeAsModel(t, head, most, bytesOf(s))
	})
}

func FuzzLine(f *testing.F) {
	for _, s := range []string{"", "HTTP/1.1 200 OK", "HTTP/1.0 404", "HTTP/1.1 20 0", "\xff"} {
		f.Add(s)
	}
	f.Fuzz(func(t *testing.T, s string) { mustBeAsLine(t, s) })
}
