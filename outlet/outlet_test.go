package outlet_test

import (
	"fmt"
	"math"
	"math/rand"
	"slices"
	"strings"
	"testing"
	"time"
	"unsafe"

	"manciple/api"
	"manciple/field"
	"manciple/inlet"
	"manciple/outlet"
)

// texts calls do with all texts of at most most of the pieces.
func texts(most int, pieces []string, do func(s string)) {
	var more func(s string, left int)
	more = func(s string, left int) {
		do(s)
		if left == 0 {
			return
		}
		for _, piece := range pieces {
			more(s+piece, left-1)
		}
	}
	more("", most)
}

// of makes a list of names and values, in turns.
func of(pairs ...string) []api.Field {
	var list []api.Field
	for i := 0; i < len(pairs); i += 2 {
		list = append(list, api.Field{Name: pairs[i], Value: pairs[i+1]})
	}
	return list
}

// many is a list of so many fields that can be written.
func many(n int) []api.Field {
	var list []api.Field
	for i := range n {
		list = append(list, api.Field{Name: fmt.Sprint("X-", i), Value: fmt.Sprint(i * i)})
	}
	return list
}

func oneByte(b int) string { return string([]byte{byte(b)}) }

func mustAnswer(t *testing.T, status int, list []api.Field, want string) {
	t.Helper()
	if s, e := outlet.Answer(status, list...); s != want || e != api.OK {
		t.Errorf("Answer of %d, %.200q: %.200q, error %d, want %.200q", status, list, s, e, want)
	}
}

func mustNotAnswer(t *testing.T, status int, list []api.Field, want api.Errno) {
	t.Helper()
	if s, e := outlet.Answer(status, list...); s != "" || e != want {
		t.Errorf("Answer of %d, %.200q: %.200q, error %d, want error %d and nothing else", status, list, s, e, want)
	}
}

func mustAsk(t *testing.T, method, target string, list []api.Field, want string) {
	t.Helper()
	if s, e := outlet.Ask(method, target, list...); s != want || e != api.OK {
		t.Errorf("Ask of %.80q, %.80q, %.200q: %.200q, error %d, want %.200q", method, target, list, s, e, want)
	}
}

func mustNotAsk(t *testing.T, method, target string, list []api.Field, want api.Errno) {
	t.Helper()
	if s, e := outlet.Ask(method, target, list...); s != "" || e != want {
		t.Errorf("Ask of %.80q, %.80q, %.200q: %.200q, error %d, want error %d and nothing else", method, target, list, s, e, want)
	}
}

// mustBe holds both kinds of heads against the second way.
func mustBe(t *testing.T, status int, method, target string, list ...api.Field) {
	t.Helper()
	if s, e := answer(status, list...); e == api.OK {
		mustAnswer(t, status, list, s)
	} else {
		mustNotAnswer(t, status, list, e)
	}
	if s, e := ask(method, target, list...); e == api.OK {
		mustAsk(t, method, target, list, s)
	} else {
		mustNotAsk(t, method, target, list, e)
	}
}

// The chapter's example.

func TestExample(t *testing.T) {
	mustAnswer(t, 200, of("A", "b"), "HTTP/1.1 200 OK\r\nA: b\r\n\r\n")
}

// P13.1

func TestReasons(t *testing.T) {
	for status, want := range map[int]string{
		200: "OK",
		206: "Partial Content",
		304: "Not Modified",
		400: "Bad Request",
		404: "Not Found",
		405: "Method Not Allowed",
		406: "Not Acceptable",
		413: "Content Too Large",
		416: "Range Not Satisfiable",
		431: "Request Header Fields Too Large",
		502: "Bad Gateway",
		503: "Service Unavailable",
		504: "Gateway Timeout",
		505: "HTTP Version Not Supported",
	} {
		if s := outlet.Reason(status); s != want {
			t.Errorf("Reason of %d: %q, want %q", status, s, want)
		}
		mustAnswer(t, status, nil, fmt.Sprint("HTTP/1.1 ", status, " ", want, "\r\n\r\n"))
	}
}

func TestReasonOfOthers(t *testing.T) {
	known := 0
	for status := -1000; status <= 2000; status++ {
		s := outlet.Reason(status)
		if s != reason(status) {
			t.Errorf("Reason of %d: %q, want %q", status, s, reason(status))
		}
		if s != "Unknown" {
			known++
		}
	}
	if known != 14 {
		t.Errorf("%d statuses are known, want 14", known)
	}
	for _, status := range []int{math.MinInt, math.MinInt32, -200, 0, 200 + 1<<32, 200 + 1<<16, 200 + 1<<8, math.MaxInt32, math.MaxInt} {
		if s := outlet.Reason(status); s != "Unknown" {
			t.Errorf("Reason of %d: %q", status, s)
		}
	}
}

// P13.2: Answer.

func TestAnswers(t *testing.T) {
	mustAnswer(t, 404, of("Content-Length", "0", "X", ""), "HTTP/1.1 404 Not Found\r\nContent-Length: 0\r\nX: \r\n\r\n")
	mustAnswer(t, 503, of("Retry-After", "5"), "HTTP/1.1 503 Service Unavailable\r\nRetry-After: 5\r\n\r\n")
	mustAnswer(t, 206, of("Content-Range", "bytes 0-1/5", "etag", `"a"`), "HTTP/1.1 206 Partial Content\r\nContent-Range: bytes 0-1/5\r\netag: \"a\"\r\n\r\n")
	mustAnswer(t, 100, nil, "HTTP/1.1 100 Unknown\r\n\r\n")
	mustAnswer(t, 599, []api.Field{}, "HTTP/1.1 599 Unknown\r\n\r\n")
	mustAnswer(t, 304, of("A", "1", "a", "1", "A", "1"), "HTTP/1.1 304 Not Modified\r\nA: 1\r\na: 1\r\nA: 1\r\n\r\n")
	mustAnswer(t, 200, of("Transfer-Encoding", "chunked", "Content-Length", "x"), "HTTP/1.1 200 OK\r\nTransfer-Encoding: chunked\r\nContent-Length: x\r\n\r\n")
}

func TestStatuses(t *testing.T) {
	for status := -100; status <= 1100; status++ {
		if status >= 100 && status <= 599 {
			mustAnswer(t, status, nil, fmt.Sprintf("HTTP/1.1 %03d %s\r\n\r\n", status, reason(status)))
		} else {
			mustNotAnswer(t, status, nil, api.ErrArg)
		}
	}
	for _, status := range []int{math.MinInt, math.MinInt32, -200, 200 + 1<<32, math.MaxInt32, math.MaxInt} {
		mustNotAnswer(t, status, nil, api.ErrArg)
		mustNotAnswer(t, status, of("A", "b"), api.ErrArg)
	}
}

// P13.2: Ask.

func TestAsks(t *testing.T) {
	mustAsk(t, "HEAD", "/v2/", of("X", ""), "HEAD /v2/ HTTP/1.1\r\nX: \r\n\r\n")
	mustAsk(t, "GET", "/v2/lib/x/manifests/v1", of("Host", "up", "Accept", "a/b, c/d"), "GET /v2/lib/x/manifests/v1 HTTP/1.1\r\nHost: up\r\nAccept: a/b, c/d\r\n\r\n")
	mustAsk(t, "get", "*", nil, "get * HTTP/1.1\r\n\r\n")
	mustAsk(t, "x-!", "~", nil, "x-! ~ HTTP/1.1\r\n\r\n")
	mustAsk(t, "HTTP", "HTTP/1.1", []api.Field{}, "HTTP HTTP/1.1 HTTP/1.1\r\n\r\n")
}

func TestBytesOfRequestLines(t *testing.T) {
	for b := range 256 {
		s := oneByte(b)
		token := tokenForm.MatchString(wide(s))
		for _, part := range []string{s, "x" + s, s + "x", "x" + s + "y", s + s} {
			if token {
				mustAsk(t, part, "/", nil, part+" / HTTP/1.1\r\n\r\n")
			} else {
				mustNotAsk(t, part, "/", nil, api.ErrArg)
			}
			if b >= 0x21 && b <= 0x7e {
				mustAsk(t, "GET", part, nil, "GET "+part+" HTTP/1.1\r\n\r\n")
			} else {
				mustNotAsk(t, "GET", part, nil, api.ErrArg)
			}
		}
	}
}

func TestNoRequestLines(t *testing.T) {
	for _, pair := range [][2]string{
		{"", ""}, {"", "/"}, {"GET", ""}, {" ", "/"}, {"GET", " "}, {"GET ", "/"}, {" GET", "/"}, {"GET", " /"}, {"GET", "/ "},
		{"GET /", ""}, {"GET /", "/"}, {"", "GET /"}, {"GET / HTTP/1.1\r\nA:", "b"}, {"GET", "/ HTTP/1.1\r\nA: b\r\n\r\nGET /"},
		{"GET", "/ HTTP/1.1"}, {"GET / HTTP/1.1", ""}, {"GET\r\n", "/"}, {"GET", "/\r\n"}, {"GET", "/\n"}, {"GET", "/\r"}, {"GET", "/\t"}, {"GET", "\u00e9"}, {"G\u00c9T", "/"}, {"(GET)", "/"},
	} {
		mustNotAsk(t, pair[0], pair[1], nil, api.ErrArg)
		mustNotAsk(t, pair[0], pair[1], of("Host", "a"), api.ErrArg)
	}
}

func TestAskOfAllShortTexts(t *testing.T) {
	pieces := []string{"G", "/", " ", "\r", "\n", "\x7f", "HTTP/1.1", "\xff"}
	texts(3, pieces, func(method string) {
		texts(3, pieces, func(target string) {
			want, e := ask(method, target)
			if s, got := outlet.Ask(method, target); s != want || got != e {
				t.Errorf("Ask of %q, %q: %q, error %d, want %q, error %d", method, target, s, got, want, e)
			}
		})
	})
}

// A start line has 1024 bytes at most, wherever they stand.
func TestBytesOfAStartLine(t *testing.T) {
	for _, n := range []int{1, 2, 10, 500, 1000, 1010, 1011, 1012, 1013} {
		method := strings.Repeat("m", n)
		target := strings.Repeat("t", 1014-n)
		mustAsk(t, method, target, nil, method+" "+target+" HTTP/1.1\r\n\r\n")
		mustAsk(t, method, target, of("A", "b"), method+" "+target+" HTTP/1.1\r\nA: b\r\n\r\n")
		mustNotAsk(t, method+"m", target, nil, api.ErrArg)
		mustNotAsk(t, method, target+"t", nil, api.ErrArg)
	}
	mustNotAsk(t, strings.Repeat("m", 1014), "", nil, api.ErrArg)
	mustNotAsk(t, "", strings.Repeat("t", 1014), nil, api.ErrArg)
	for _, n := range []int{1014, 1024, 4096, 5000, 1 << 20} {
		mustNotAsk(t, strings.Repeat("m", n), "/", nil, api.ErrArg)
		mustNotAsk(t, "GET", strings.Repeat("t", n), nil, api.ErrArg)
	}
}

// P13.2: the fields of both.

func TestFieldsThatCannotBeWritten(t *testing.T) {
	for _, f := range of(
		"", "", "", "b", "A ", "b", " A", "b", "A b", "c", "A:", "b", "A\r\nB", "c", "\xe9", "b", "A\x00", "b",
		"A", " b", "A", "b ", "A", " ", "A", "\t", "A", "b\t", "A", "b\r", "A", "b\n", "A", "b\r\nC: d", "A", "\x00", "A", "b\x7fc",
	) {
		for _, list := range [][]api.Field{{f}, {f, of("A", "b")[0]}, {of("A", "b")[0], f}, append(many(31), f), append(many(32), f)} {
			mustNotAnswer(t, 200, list, api.ErrArg)
			mustNotAsk(t, "GET", "/", list, api.ErrArg)
		}
	}
}

func TestBytesOfFields(t *testing.T) {
	for b := range 256 {
		s := oneByte(b)
		for _, part := range []string{s, "x" + s, s + "x", "x" + s + "y"} {
			mustBe(t, 200, "GET", "/", api.Field{Name: part, Value: "v"})
			mustBe(t, 200, "GET", "/", api.Field{Name: "N", Value: part})
		}
	}
}

func TestFieldsOfAllShortTexts(t *testing.T) {
	pieces := []string{"A", ":", " ", "\t", "\r\n", "b\xff"}
	texts(3, pieces, func(name string) {
		texts(3, pieces, func(value string) {
			mustBe(t, 200, "GET", "/", api.Field{Name: name, Value: value})
		})
	})
}

func TestCountOfFields(t *testing.T) {
	for n := range 40 {
		list := many(n)
		mustBe(t, 200, "GET", "/", list...)
		if n > 32 {
			mustNotAnswer(t, 200, list, api.ErrArg)
			mustNotAsk(t, "GET", "/", list, api.ErrArg)
		}
	}
	mustNotAnswer(t, 200, make([]api.Field, 33), api.ErrArg)
	mustNotAnswer(t, 200, many(100000), api.ErrArg)
	mustNotAsk(t, "GET", "/", many(100000), api.ErrArg)
}

// filled is a list of fields with which a head of such a start line has so
// many bytes.
func filled(start string, size, fields int) []api.Field {
	list := make([]api.Field, fields)
	for i := range list {
		list[i] = api.Field{Name: "N"}
		size -= 5
	}
	list[0].Value = strings.Repeat("v", size-len(start)-4)
	return list
}

func TestBytesOfAHead(t *testing.T) {
	for status := 100; status <= 599; status += 7 {
		start := fmt.Sprint("HTTP/1.1 ", status, " ", reason(status))
		mustBeOfSize(t, start, func(list ...api.Field) (string, api.Errno) { return outlet.Answer(status, list...) })
	}
	for _, n := range []int{1, 500, 1011} {
		target := strings.Repeat("t", n)
		start := "GET " + target + " HTTP/1.1"
		mustBeOfSize(t, start, func(list ...api.Field) (string, api.Errno) { return outlet.Ask("GET", target, list...) })
	}
}

func mustBeOfSize(t *testing.T, start string, head func(list ...api.Field) (string, api.Errno)) {
	t.Helper()
	for _, fields := range []int{1, 2, 31, 32} {
		for _, size := range []int{2000, 4094, 4095, 4096} {
			s, e := head(filled(start, size, fields)...)
			if len(s) != size || e != api.OK || !strings.HasPrefix(s, start+"\r\nN: v") {
				t.Errorf("%.80q, %d fields, %d bytes: %d bytes, error %d", start, fields, size, len(s), e)
			}
		}
		for _, size := range []int{4097, 4098, 4100, 5000, 1 << 20} {
			if s, e := head(filled(start, size, fields)...); s != "" || e != api.ErrLong {
				t.Errorf("%.80q, %d fields, %d bytes: %d bytes, error %d, want ErrLong", start, fields, size, len(s), e)
			}
		}
	}
	// A name's bytes count as those of a value.
	name := strings.Repeat("n", 4096-len(start)-8)
	if s, e := head(api.Field{Name: name}); s != start+"\r\n"+name+": \r\n\r\n" || e != api.OK {
		t.Errorf("%.80q: %d bytes, error %d", start, len(s), e)
	}
	if s, e := head(api.Field{Name: name + "n"}); s != "" || e != api.ErrLong {
		t.Errorf("%.80q: %d bytes, error %d, want ErrLong", start, len(s), e)
	}
}

// Whatever is too long, what can't be is told first.
func TestArgumentsAheadOfLength(t *testing.T) {
	long := of("L", strings.Repeat("v", 5000))
	mustNotAnswer(t, 200, long, api.ErrLong)
	mustNotAsk(t, "GET", "/", long, api.ErrLong)
	mustNotAnswer(t, 99, long, api.ErrArg)
	mustNotAnswer(t, 600, long, api.ErrArg)
	mustNotAsk(t, "GET", "", long, api.ErrArg)
	mustNotAsk(t, "GET", strings.Repeat("t", 1012), long, api.ErrArg)
	for _, list := range [][]api.Field{append(long, of("", "")...), append(of("A", " "), long...), append(long, many(32)...), of("L", strings.Repeat("v", 5000)+" ")} {
		mustNotAnswer(t, 200, list, api.ErrArg)
		mustNotAsk(t, "GET", "/", list, api.ErrArg)
	}
	mustNotAnswer(t, 200, append(long, many(31)...), api.ErrLong)
}

// P13.3

func TestBodyless(t *testing.T) {
	for status := -1000; status <= 2000; status++ {
		if !outlet.Bodyless(status, true) {
			t.Errorf("an answer to HEAD with %d has a body", status)
		}
		if got := outlet.Bodyless(status, false); got != bodyless(status, false) {
			t.Errorf("Bodyless of %d: %v", status, got)
		}
	}
	for status, want := range map[int]bool{99: false, 100: true, 101: true, 150: true, 199: true, 200: false, 203: false, 204: true, 205: false, 206: false, 303: false, 304: true, 305: false, 404: false, 0: false, -100: false, -204: false, math.MinInt: false, math.MaxInt: false, 204 + 1<<32: false} {
		if outlet.Bodyless(status, false) != want {
			t.Errorf("Bodyless of %d isn't %v", status, want)
		}
		if !outlet.Bodyless(status, true) {
			t.Errorf("an answer to HEAD with %d has a body", status)
		}
	}
}

// P13.4

// mustBeReadAgain holds that a head is read as it was, alone, with a body
// behind it, and not till it is whole.
func mustBeReadAgain(t *testing.T, s, start string, list []api.Field) {
	t.Helper()
	for _, behind := range []string{"", "body", "\r\n", "\n", "HTTP/1.1 200 OK\r\n\r\n", strings.Repeat("b", 5000)} {
		if line, l, n, e := field.Split(s + behind); line != start || !slices.Equal(l, list) || n != len(s) || e != api.OK {
			t.Errorf("%.200q is read as %.80q, %.200q, %d bytes, error %d", s, line, l, n, e)
		}
	}
	if _, _, _, e := field.Split(s[:len(s)-1]); e != api.ErrShort {
		t.Errorf("%.200q without its last byte: error %d", s, e)
	}
}

func TestHeadsAreReadAsTheyWere(t *testing.T) {
	rng := rand.New(rand.NewSource(13))
	const nameBytes = "!#$%&'*+-.^_`|~0123456789ABCDEFGHIJKLMNOPQRSTUVWXYZabcdefghijklmnopqrstuvwxyz"
	const valueBytes = "\"\\,;:=()/{} \t\x21\x7e\x80\xff\xc3\xa9abc \t"
	read, long := 0, 0
	for range 20000 {
		method := pick(rng, nameBytes, 1+rng.Intn(5))
		target := pick(rng, "/:?#%.abc~!{}\"", 1+rng.Intn(10))
		most := []int{5, 50, 400}[rng.Intn(3)]
		list := make([]api.Field, rng.Intn(33))
		for i := range list {
			list[i] = api.Field{Name: pick(rng, nameBytes, 1+rng.Intn(8)), Value: strings.Trim(pick(rng, valueBytes, rng.Intn(most)), " \t")}
		}
		status := 100 + rng.Intn(500)
		mustBe(t, status, method, target, list...)
		s, e := outlet.Answer(status, list...)
		if e != api.OK {
			long++
			continue
		}
		read++
		mustBeReadAgain(t, s, fmt.Sprintf("HTTP/1.1 %d %s", status, reason(status)), list)
		s, e = outlet.Ask(method, target, list...)
		if e != api.OK {
			continue
		}
		start := method + " " + target + " HTTP/1.1"
		mustBeReadAgain(t, s, start, list)
		if m, x, minor, code := inlet.Line(start); m != method || x != target || minor != 1 || code != 200 {
			t.Errorf("%q is read as %q, %q, %d, %d", start, m, x, minor, code)
		}
	}
	if read < 1000 || long < 1000 {
		t.Errorf("%d heads were read, %d too long", read, long)
	}
}

// What is asked comes out of layer 12 as it was.
func TestRequestsAreReadAsTheyWere(t *testing.T) {
	for _, list := range [][]api.Field{of("Host", "a"), of("Host", "", "Accept", "a/b;q=0.5"), append(many(31), of("host", "x:1")...)} {
		s, e := outlet.Ask("GET", "/v2/x/blobs/y", list...)
		p := inlet.New()
		if e != api.OK || p.Add(s+s) != api.OK {
			t.Fatalf("%q, error %d", s, e)
		}
		for range 2 {
			if r, status := p.Next(); r.Method != "GET" || r.Target != "/v2/x/blobs/y" || !slices.Equal(r.Fields, list) || r.Close || status != 200 {
				t.Errorf("%q is read as %+v, %d", s, r, status)
			}
		}
		if p.Left() != 0 {
			t.Errorf("%q: %d bytes are left", s, p.Left())
		}
	}
}

func pick(rng *rand.Rand, bytes string, n int) string {
	var out []byte
	for range n {
		out = append(out, bytes[rng.Intn(len(bytes))])
	}
	return string(out)
}

// Rules: lists aren't changed, nothing is kept, answers are new memory.

func shares(a, b string) bool {
	if a == "" || b == "" {
		return false
	}
	x, y := uintptr(unsafe.Pointer(unsafe.StringData(a))), uintptr(unsafe.Pointer(unsafe.StringData(b)))
	return x < y+uintptr(len(b)) && y < x+uintptr(len(a))
}

func TestListsStayAsTheyWere(t *testing.T) {
	spare := append(many(40), of("B", " ")...)
	for _, n := range []int{0, 1, 32, 33, 41} {
		for _, list := range [][]api.Field{spare[:n], spare[:n:n]} {
			before := slices.Clone(spare)
			one, _ := outlet.Answer(200, list...)
			two, _ := outlet.Ask("GET", "/", list...)
			if !slices.Equal(spare, before) {
				t.Fatalf("the list of %d fields was changed", n)
			}
			again, _ := outlet.Answer(200, list...)
			if again != one || shares(again, one) || shares(one, two) {
				t.Errorf("answers of %d fields aren't apart", n)
			}
			for _, f := range list {
				if shares(one, f.Name) || shares(one, f.Value) || shares(two, f.Name) || shares(two, f.Value) {
					t.Errorf("an answer shares memory with %q", f)
				}
			}
		}
	}
}

// A call hangs on its arguments alone, whatever was called ahead of it.
func TestCallsAreApart(t *testing.T) {
	for range 3 {
		mustNotAnswer(t, 200, of("A", " "), api.ErrArg)
		mustAnswer(t, 200, of("A", "b"), "HTTP/1.1 200 OK\r\nA: b\r\n\r\n")
		mustNotAsk(t, "GET", "", nil, api.ErrArg)
		mustAsk(t, "GET", "/", nil, "GET / HTTP/1.1\r\n\r\n")
	}
}

func TestVeryLongTexts(t *testing.T) {
	begun := time.Now()
	long := strings.Repeat("v", 1<<24)
	list := slices.Repeat(of("L", long), 32)
	mustNotAnswer(t, 200, list, api.ErrLong)
	mustNotAsk(t, "GET", "/", list, api.ErrLong)
	mustNotAsk(t, long, "/", nil, api.ErrArg)
	mustNotAsk(t, "GET", long, nil, api.ErrArg)
	mustNotAnswer(t, 200, slices.Repeat(list, 10000), api.ErrArg)
	if took := time.Since(begun); took > 60*time.Second {
		t.Errorf("it took %v", took)
	}
}

func FuzzHeads(f *testing.F) {
	f.Add(200, "GET", "/v2/", "Host", "a", "A", "b", 0)
	f.Add(599, "HEAD", "*", "X", "", "Y", "\xff", 4050)
	f.Add(600, "G T", "/ ", "X ", " ", "", "\r\n", 1<<15)
	f.Fuzz(func(t *testing.T, status int, method, target, n1, v1, n2, v2 string, more int) {
		list := of(n1, v1, n2, v2+strings.Repeat("v", min(max(more, 0), 5000)))
		mustBe(t, status, method, target, list...)
		if got := outlet.Bodyless(status, false); got != bodyless(status, false) {
			t.Errorf("Bodyless of %d: %v", status, got)
		}
		if s, e := outlet.Answer(status, list...); e == api.OK {
			mustBeReadAgain(t, s, fmt.Sprintf("HTTP/1.1 %d %s", status, reason(status)), list)
		}
		if s, e := outlet.Ask(method, target, list...); e == api.OK {
			mustBeReadAgain(t, s, method+" "+target+" HTTP/1.1", list)
		}
	})
}
