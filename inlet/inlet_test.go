package inlet_test

import (
	"fmt"
	"math/rand"
	"reflect"
	"slices"
	"strings"
	"testing"
	"unsafe"

	"manciple/api"
	"manciple/chunk"
	"manciple/inlet"
)

const host = "Host: x\r\n"

// texts calls do with all texts of at most most of the pieces.
func texts(most int, pieces []string, do func(s string)) {
	var more func(s string, left int)
	more = func(s string, left int) {
		do(s)
		if left == 0 {
			return
		}
		for _, piece := range pieces {
			more(s+piece, left-1)
		}
	}
	more("", most)
}

func oneByte(b int) string { return string([]byte{byte(b)}) }

// bytesOf is a text in parts of a byte each.
func bytesOf(s string) []string {
	var parts []string
	for i := range len(s) {
		parts = append(parts, s[i:i+1])
	}
	return parts
}

// of makes a list of names and values, in turns.
func of(pairs ...string) []api.Field {
	var list []api.Field
	for i := 0; i < len(pairs); i += 2 {
		list = append(list, api.Field{Name: pairs[i], Value: pairs[i+1]})
	}
	return list
}

func same(a, b api.Request) bool {
	return a.Method == b.Method && a.Target == b.Target && a.Close == b.Close && slices.Equal(a.Fields, b.Fields)
}

func isZero(r api.Request) bool { return reflect.DeepEqual(r, api.Request{}) }

func mustLine(t *testing.T, s, method, target string, minor int) {
	t.Helper()
	if m, x, n, status := inlet.Line(s); m != method || x != target || n != minor || status != 200 {
		t.Errorf("Line of %.80q: %.80q, %.80q, %d, %d, want %.80q, %.80q, %d, 200", s, m, x, n, status, method, target, minor)
	}
}

func mustNotLine(t *testing.T, s string, want int) {
	t.Helper()
	if m, x, n, status := inlet.Line(s); m != "" || x != "" || n != 0 || status != want {
		t.Errorf("Line of %.80q: %.80q, %.80q, %d, %d, want %d and nothing else", s, m, x, n, status, want)
	}
}

func mustAdd(t *testing.T, p *inlet.Inlet, s string, want api.Errno) {
	t.Helper()
	if e := p.Add(s); e != want {
		t.Errorf("Add of %.80q, %d bytes: error %d, want %d", s, len(s), e, want)
	}
}

func mustLeft(t *testing.T, p *inlet.Inlet, want int) {
	t.Helper()
	if n := p.Left(); n != want {
		t.Errorf("Left is %d, want %d", n, want)
	}
}

// mustNext holds that Next is this request.
func mustNext(t *testing.T, p *inlet.Inlet, want api.Request) {
	t.Helper()
	if r, status := p.Next(); !same(r, want) || status != 200 {
		t.Errorf("Next is %+v, %d, want %+v", r, status, want)
	}
}

// mustNone holds that Next is no request, but this number, more than once.
func mustNone(t *testing.T, p *inlet.Inlet, want int) {
	t.Helper()
	for range 3 {
		if r, status := p.Next(); !isZero(r) || status != want {
			t.Errorf("Next is %+v, %d, want %d", r, status, want)
		}
	}
}

// mustCome holds what a text comes to, in these parts, if Next is asked behind
// each of them.
func mustCome(t *testing.T, parts []string, list []api.Request, wrong, left int) {
	t.Helper()
	p := inlet.New()
	var got []api.Request
	status := 0
	come, had := 0, 0
	for _, part := range parts {
		want := api.OK
		if status != 0 {
			want = api.ErrState
		} else {
			come += len(part)
		}
		mustAdd(t, p, part, want)
		var r api.Request
		for {
			r, status = p.Next()
			if status != 200 {
				break
			}
			got = append(got, r)
			had = come - p.Left()
		}
		if !isZero(r) {
			t.Errorf("%.300q: %+v beside %d", parts, r, status)
		}
		mustLeft(t, p, come-had)
	}
	if status == 0 {
		mustLeft(t, p, left)
	}
	if !slices.EqualFunc(got, list, same) || status != wrong {
		t.Errorf("%.300q: %+v, %d, want %+v, %d", parts, got, status, list, wrong)
	}
}

// mustBeWrong holds that a text is wrong just at its last byte, all at once and
// byte by byte, and stays it.
func mustBeWrong(t *testing.T, s string, want int) {
	t.Helper()
	mustCome(t, []string{s}, nil, want, 0)
	mustCome(t, []string{s[:len(s)-1], s[len(s)-1:]}, nil, want, 0)
	mustCome(t, []string{s[:len(s)-1]}, nil, 0, len(s)-1)
	mustCome(t, bytesOf(s), nil, want, 0)
	mustCome(t, bytesOf(s[:len(s)-1]), nil, 0, len(s)-1)
	// Whatever comes behind it, and behind a request that is whole.
	mustCome(t, []string{s + "GET / HTTP/1.0\r\n\r\n"}, nil, want, 0)
	ping := "GET /v2/ HTTP/1.0\r\n\r\n"
	first := api.Request{Method: "GET", Target: "/v2/", Close: true}
	mustCome(t, []string{ping + s}, []api.Request{first}, want, 0)
	p := inlet.New()
	mustAdd(t, p, ping+s+"more", api.OK)
	mustNext(t, p, first)
	for range 2 {
		mustLeft(t, p, len(s)+4)
		mustNone(t, p, want)
		mustAdd(t, p, "", api.ErrState)
		mustAdd(t, p, ping, api.ErrState)
		mustAdd(t, p, strings.Repeat("x", api.MaxKeep+1), api.ErrState)
	}
}

// mustBeWhole holds that a text is one request just at its last byte, and that
// what comes behind it isn't read.
func mustBeWhole(t *testing.T, s string, want api.Request) {
	t.Helper()
	mustCome(t, []string{s}, []api.Request{want}, 0, 0)
	mustCome(t, []string{s[:len(s)-1], s[len(s)-1:]}, []api.Request{want}, 0, 0)
	mustCome(t, bytesOf(s), []api.Request{want}, 0, 0)
	mustCome(t, bytesOf(s[:len(s)-1]), nil, 0, len(s)-1)
	for _, more := range []string{"", "x", "\r\n", "\n", s} {
		p := inlet.New()
		mustAdd(t, p, s+more, api.OK)
		mustNext(t, p, want)
		mustLeft(t, p, len(more))
	}
	mustCome(t, []string{s + s}, []api.Request{want, want}, 0, 0)
	mustCome(t, []string{s + "\r\n"}, []api.Request{want}, 400, 0)
}

// mustGoOn holds that a text is nothing yet, and not wrong.
func mustGoOn(t *testing.T, s string) {
	t.Helper()
	mustCome(t, []string{s}, nil, 0, len(s))
	mustCome(t, bytesOf(s), nil, 0, len(s))
}

// The chapter's examples.

func TestExamples(t *testing.T) {
	begin := "GET /v2/ HTTP/1.1\r\nHost: a\r\n"
	mustBeWhole(t, begin+"\r\n", api.Request{Method: "GET", Target: "/v2/", Fields: of("Host", "a")})
	mustBeWrong(t, begin+"Content-Length: 5\r\nTransfer-Encoding: chunked\r\n\r\n", 400)
	mustBeWrong(t, begin+"Content-Length: 5000\r\n\r\n", 413)
}

// P12.1

func TestLine(t *testing.T) {
	mustLine(t, "GET / HTTP/1.1", "GET", "/", 1)
	mustLine(t, "GET / HTTP/1.0", "GET", "/", 0)
	mustLine(t, "get * HTTP/1.1", "get", "*", 1)
	mustLine(t, "!~ HTTP/1.1 HTTP/1.0", "!~", "HTTP/1.1", 0)
	mustLine(t, "HTTP x HTTP/1.1", "HTTP", "x", 1)
	mustLine(t, "G http://a:80/b?c#d%00 HTTP/1.1", "G", "http://a:80/b?c#d%00", 1)
	for _, s := range []string{
		"", " ", "  ", "GET", "GET ", "GET /", "GET / ", "GET  HTTP/1.1", " / HTTP/1.1", " GET / HTTP/1.1", "GET  / HTTP/1.1", "GET /  HTTP/1.1",
		"GET / HTTP/1.1 ", "GET / / HTTP/1.1", "GET\t/ HTTP/1.1", "GET /\tHTTP/1.1", "GET / HTTP/1.1\r", "GET / HTTP/1.1\r\n", "GET / HTTP/1.1\n", "/ HTTP/1.1", "HTTP/1.1",
		"GET/ HTTP/1.1", "GET /HTTP/1.1", "G:T / HTTP/1.1", "\"GET\" / HTTP/1.1", "GET /caf\u00e9 HTTP/1.1", "GET \u00a0/ HTTP/1.1", "GET\u00a0/ HTTP/1.1",
		"GET / http/1.1", "GET / Http/1.1", "GET / HTTP/1", "GET / HTTP/1.", "GET / HTTP/.1", "GET / HTTP/1.10", "GET / HTTP/01.1", "GET / HTTP/11", "GET / HTTP/1,1", "GET / HTTP/+1.1", "GET / HTTP/1.-1", "GET / HTTP/1.1.1", "GET / HTTP//1.1", "GET / HTTP1.1", "GET / HTTPS/1.1", "GET / HTTP 1.1", "GET / HTTP/\u0661.1", "GET / FTP/1.1",
	} {
		mustNotLine(t, s, 400)
	}
}

func TestVersions(t *testing.T) {
	for major := range 10 {
		for minor := range 10 {
			s := fmt.Sprintf("GET / HTTP/%d.%d", major, minor)
			if major == 1 && minor < 2 {
				mustLine(t, s, "GET", "/", minor)
			} else {
				mustNotLine(t, s, 505)
			}
			mustNotLine(t, s+"0", 400)
			mustNotLine(t, "GET "+s[5:], 400)
			mustNotLine(t, "GET  "+s[5:], 400)
			mustNotLine(t, "GET \x7f"+s[5:], 400)
			mustNotLine(t, "G(T"+s[3:], 400)
		}
	}
}

func TestBytesOfLines(t *testing.T) {
	const token = "!#$%&'*+-.^_`|~0123456789ABCDEFGHIJKLMNOPQRSTUVWXYZabcdefghijklmnopqrstuvwxyz"
	for b := range 256 {
		s := oneByte(b)
		for _, method := range []string{s, s + "A", "A" + s, "A" + s + "z"} {
			if b < 128 && strings.Contains(token, s) {
				mustLine(t, method+" / HTTP/1.1", method, "/", 1)
			} else {
				mustNotLine(t, method+" / HTTP/1.1", 400)
				mustNotLine(t, method+" / HTTP/2.0", 400)
			}
		}
		for _, target := range []string{s, s + "/", "/" + s, "/" + s + "z"} {
			if b >= 0x21 && b <= 0x7e {
				mustLine(t, "GET "+target+" HTTP/1.0", "GET", target, 0)
			} else {
				mustNotLine(t, "GET "+target+" HTTP/1.0", 400)
				mustNotLine(t, "GET "+target+" HTTP/3.0", 400)
			}
		}
		const good = "GET / HTTP/1.1"
		for at := range len(good) + 1 {
			mustBeAsLine(t, good[:at]+s+good[at:])
			mustBeAsLine(t, good[:at]+s+good[min(at+1, len(good)):])
		}
	}
	long := strings.Repeat("/x", 1<<19)
	mustLine(t, "GET "+long+" HTTP/1.1", "GET", long, 1)
	mustNotLine(t, "GET "+long+"\x7f HTTP/1.1", 400)
	mustLine(t, strings.Repeat("G", 1<<20)+" / HTTP/1.1", strings.Repeat("G", 1<<20), "/", 1)
	mustNotLine(t, strings.Repeat(" ", 1<<20), 400)
}

func mustBeAsLine(t *testing.T, s string) {
	t.Helper()
	m, x, n, status := inlet.Line(s)
	wantM, wantX, wantN, want := line(s)
	if m != wantM || x != wantX || n != wantN || status != want {
		t.Errorf("Line of %.80q: %.80q, %.80q, %d, %d, want %.80q, %.80q, %d, %d", s, m, x, n, status, wantM, wantX, wantN, want)
	}
}

func TestLineOfAllShortTexts(t *testing.T) {
	texts(6, []string{"G", " ", "/", "\xff", "HTTP/1.1", "HTTP/2.", "0"}, func(s string) { mustBeAsLine(t, s) })
}

// P12.2

func TestNothingHasCome(t *testing.T) {
	p := inlet.New()
	for range 2 {
		mustLeft(t, p, 0)
		mustNone(t, p, 0)
		mustAdd(t, p, "", api.OK)
	}
}

func TestNil(t *testing.T) {
	var p *inlet.Inlet
	for _, s := range []string{"", "GET / HTTP/1.0\r\n\r\n", "\n", strings.Repeat("x", api.MaxKeep+1)} {
		mustAdd(t, p, s, api.ErrNil)
		mustNone(t, p, 0)
		mustLeft(t, p, 0)
	}
}

// Only Next makes what is wrong be so.
func TestAddBehindWhatIsWrong(t *testing.T) {
	for _, s := range []string{"\n", "GET /\r\n\r\n", "GET / HTTP/2.0\r\n\r\n"} {
		p := inlet.New()
		mustAdd(t, p, s, api.OK)
		mustAdd(t, p, "more", api.OK)
		mustLeft(t, p, len(s)+4)
		_, status := p.Next()
		mustLeft(t, p, len(s)+4)
		mustAdd(t, p, "", api.ErrState)
		mustAdd(t, p, "x", api.ErrState)
		mustNone(t, p, status)
		mustLeft(t, p, len(s)+4)
	}
}

func TestRoomOfAdd(t *testing.T) {
	for _, first := range []int{0, 1, 100, 1 << 13, api.MaxKeep - 1, api.MaxKeep} {
		p := inlet.New()
		mustAdd(t, p, strings.Repeat("x", first), api.OK)
		for _, more := range []int{1, 2, 1000, 1 << 20} {
			mustAdd(t, p, strings.Repeat("x", api.MaxKeep-first+more), api.ErrFull)
			mustLeft(t, p, first)
		}
		mustAdd(t, p, strings.Repeat("x", api.MaxKeep-first), api.OK)
		mustLeft(t, p, api.MaxKeep)
		mustAdd(t, p, "", api.OK)
		mustAdd(t, p, "x", api.ErrFull)
		mustLeft(t, p, api.MaxKeep)
		mustNone(t, p, 431)
		mustAdd(t, p, "x", api.ErrState)
	}
}

// What found no room hasn't come, not even its beginning.
func TestWhatFindsNoRoom(t *testing.T) {
	p := inlet.New()
	mustAdd(t, p, "GET /a HTTP/1.0\r\n", api.OK)
	mustAdd(t, p, "\r\n"+strings.Repeat("x", api.MaxKeep), api.ErrFull)
	mustNone(t, p, 0)
	mustLeft(t, p, 17)
	mustAdd(t, p, "A: b\r\n\r\n", api.OK)
	mustNext(t, p, api.Request{Method: "GET", Target: "/a", Fields: of("A", "b"), Close: true})
	mustLeft(t, p, 0)
}

func TestRequestsThatAreAnsweredMakeRoom(t *testing.T) {
	one := "GET /" + strings.Repeat("a", 110) + " HTTP/1.0\r\n\r\n"
	if len(one) != 128 {
		t.Fatal(len(one))
	}
	want := api.Request{Method: "GET", Target: "/" + strings.Repeat("a", 110), Close: true}
	p := inlet.New()
	mustAdd(t, p, strings.Repeat(one, 128), api.OK)
	for i := range 300 {
		mustLeft(t, p, api.MaxKeep)
		mustAdd(t, p, "x", api.ErrFull)
		mustNext(t, p, want)
		mustLeft(t, p, api.MaxKeep-128)
		// Only what Next tells is read: not a byte of what stands behind it.
		mustAdd(t, p, one+"x", api.ErrFull)
		mustAdd(t, p, one, api.OK)
		if t.Failed() {
			t.Fatal(i)
		}
	}
}

// What Next has read of a body makes room, though its request isn't whole.
func TestBodiesThatAreReadMakeRoom(t *testing.T) {
	head := "PUT /a HTTP/1.0\r\nContent-Length: 4096\r\n\r\n"
	p := inlet.New()
	mustAdd(t, p, head+strings.Repeat("x", 4000), api.OK)
	mustAdd(t, p, strings.Repeat("x", api.MaxKeep-len(head)-4000+1), api.ErrFull)
	mustNone(t, p, 0)
	mustLeft(t, p, len(head)+4000)
	mustAdd(t, p, strings.Repeat("x", api.MaxKeep+1), api.ErrFull)
	mustAdd(t, p, strings.Repeat("x", 95), api.OK)
	mustNone(t, p, 0)
	mustLeft(t, p, len(head)+4095)
	mustAdd(t, p, strings.Repeat("x", api.MaxKeep), api.OK)
	mustNext(t, p, api.Request{Method: "PUT", Target: "/a", Fields: of("Content-Length", "4096"), Close: true})
	mustLeft(t, p, api.MaxKeep-1)
	mustAdd(t, p, "x", api.OK)
	mustAdd(t, p, "x", api.ErrFull)
}

// A body of few bytes may come in chunks that have very many.
func TestLongChunksOfAShortBody(t *testing.T) {
	p := inlet.New()
	head := "PUT /a HTTP/1.1\r\nHost: x\r\nTransfer-Encoding: chunked\r\n\r\n"
	mustAdd(t, p, head, api.OK)
	piece := "1;" + strings.Repeat("y", 252) + "\r\nz\r\n"
	for i := range 4096 {
		mustAdd(t, p, piece, api.OK)
		mustNone(t, p, 0)
		mustLeft(t, p, len(head)+(i+1)*len(piece))
	}
	mustAdd(t, p, "0\r\n\r\n"+strings.Repeat("x", api.MaxKeep-5), api.OK)
	mustNext(t, p, api.Request{Method: "PUT", Target: "/a", Fields: of("Host", "x", "Transfer-Encoding", "chunked")})
	mustLeft(t, p, api.MaxKeep-5)
}

func TestLeft(t *testing.T) {
	p := inlet.New()
	for i, step := range []struct {
		add    string
		status int
		left   int
	}{
		{"", 0, 0}, {"G", 0, 1}, {"ET / HTTP/1.1\r\nHost: x\r\n", 0, 25}, {"\r", 0, 26}, {"\n", 200, 0}, {"", 0, 0},
		{"PUT / HTTP/1.0\r\nContent-Length: 3\r\n\r\n", 0, 37}, {"a", 0, 38}, {"", 0, 38}, {"bcPUT ", 200, 4}, {"", 0, 4},
		{"/ HTTP/1.0\r\nTransfer-Encoding: chunked\r\n\r\n", 0, 46}, {"2\r\na", 0, 50}, {"b\r\n0\r\n", 0, 56}, {"\r\n\r", 200, 1}, {"", 0, 1},
		{"\n", 400, 2},
	} {
		mustAdd(t, p, step.add, api.OK)
		if _, status := p.Next(); status != step.status {
			t.Errorf("step %d: %d, want %d", i, status, step.status)
		}
		mustLeft(t, p, step.left)
	}
}

// P12.3

func TestRequests(t *testing.T) {
	for s, want := range map[string]api.Request{
		"GET /v2/ HTTP/1.1\r\nHost: a\r\n\r\n":                                                 {Method: "GET", Target: "/v2/", Fields: of("Host", "a")},
		"HEAD /d HTTP/1.0\r\n\r\n":                                                             {Method: "HEAD", Target: "/d", Close: true},
		"get x HTTP/1.1\r\nhOST:\r\n\r\n":                                                      {Method: "get", Target: "x", Fields: of("hOST", "")},
		"!~ %zz HTTP/1.1\r\nA: 2\r\nHOST: \t x y\t\r\na:1\r\nA:2\r\n\r\n":                      {Method: "!~", Target: "%zz", Fields: of("A", "2", "HOST", "x y", "a", "1", "A", "2")},
		"GET / HTTP/1.1\r\nHost: \xff\x80\"\r\n\r\n":                                           {Method: "GET", Target: "/", Fields: of("Host", "\xff\x80\"")},
		"GET / HTTP/1.0\r\nHost: x\r\n\r\n":                                                    {Method: "GET", Target: "/", Fields: of("Host", "x"), Close: true},
		"PUT / HTTP/1.0\r\nContent-Length: 0\r\n\r\n":                                          {Method: "PUT", Target: "/", Fields: of("Content-Length", "0"), Close: true},
		"GET / HTTP/1.0\r\nContent-Length: 5\r\n\r\na\r\n\r\n":                                 {Method: "GET", Target: "/", Fields: of("Content-Length", "5"), Close: true},
		"PUT / HTTP/1.0\r\nTransfer-encoding: Chunked\r\n\r\n0\r\n\r\n":                        {Method: "PUT", Target: "/", Fields: of("Transfer-encoding", "Chunked"), Close: true},
		"P / HTTP/1.0\r\nTransfer-Encoding: chunked\r\n\r\n3;x\r\nabc\r\n0\r\nHost: b\r\n\r\n": {Method: "P", Target: "/", Fields: of("Transfer-Encoding", "chunked"), Close: true},
	} {
		mustBeWhole(t, s, want)
	}
}

func TestClose(t *testing.T) {
	for _, c := range []struct {
		fields []api.Field
		of1_1  bool
		of1_0  bool
	}{
		{nil, false, true},
		{of("Connection", "close"), true, true},
		{of("connection", "CLOSE"), true, true},
		{of("Connection", "keep-alive"), false, false},
		{of("Connection", "Keep-Alive, x"), false, false},
		{of("Connection", "keep-alive, close"), true, true},
		{of("Connection", "x", "Connection", "a,close,b"), true, true},
		{of("Connection", "closed"), false, true},
		{of("Connection", "\"close\""), false, true},
		{of("Close", "close"), false, true},
	} {
		text := ""
		for _, f := range c.fields {
			text += f.Name + ": " + f.Value + "\r\n"
		}
		list := append(of("Host", "x"), c.fields...)
		mustBeWhole(t, "GET / HTTP/1.1\r\n"+host+text+"\r\n", api.Request{Method: "GET", Target: "/", Fields: list, Close: c.of1_1})
		mustBeWhole(t, "GET / HTTP/1.0\r\n"+host+text+"\r\n", api.Request{Method: "GET", Target: "/", Fields: list, Close: c.of1_0})
		mustBeWhole(t, "GET / HTTP/1.0\r\n"+text+"\r\n", api.Request{Method: "GET", Target: "/", Fields: c.fields, Close: c.of1_0})
	}
}

func TestHeadsThatSplitRefuses(t *testing.T) {
	begin := "GET / HTTP/1.1\r\n" + host
	for _, s := range []string{
		"\r\n", "\n", "x\n", "GET / HTTP/1.1\n", "GET / HTTP/1.1\r\r\n", "G\rT / HTTP/1.1\r\n",
		begin + "\n", begin + "A\r\n", begin + "A : 1\r\n", begin + " A: 1\r\n", begin + ": 1\r\n", begin + "A: \x00\r\n", begin + "A: b\rc\r\n", begin + "A: b\n", begin + "caf\u00e9: b\r\n",
	} {
		mustBeWrong(t, s, 400)
	}
	fields := strings.Repeat("A: 1\r\n", api.MaxFields-1)
	mustBeWhole(t, begin+fields+"\r\n", api.Request{Method: "GET", Target: "/", Fields: append(of("Host", "x"), of(strings.Fields(strings.Repeat("A 1 ", 31))...)...)})
	mustBeWrong(t, begin+fields+"A: 1\r\n", 431)
	mustBeWrong(t, begin+fields+"A 1\r\n", 400)
	mustBeWrong(t, begin+"A: 1\n", 400)
}

func TestLongHeads(t *testing.T) {
	target := strings.Repeat("a", api.MaxStart-len("GET  HTTP/1.0"))
	mustBeWhole(t, "GET "+target+" HTTP/1.0\r\n\r\n", api.Request{Method: "GET", Target: target, Close: true})
	mustBeWrong(t, "GET "+target+"a HTTP/1.0\r\n", 431)
	mustBeWrong(t, strings.Repeat("x", api.MaxStart+1)+"\r\n", 431)
	mustGoOn(t, strings.Repeat("x", api.MaxHead-1))
	mustBeWrong(t, strings.Repeat("x", api.MaxHead), 431)
	mustBeWrong(t, strings.Repeat("x", api.MaxHead-2)+"\r\n", 431)
	begin := "GET / HTTP/1.0\r\nA: "
	value := strings.Repeat("b", api.MaxHead-len(begin)-4)
	mustBeWhole(t, begin+value+"\r\n\r\n", api.Request{Method: "GET", Target: "/", Fields: of("A", value), Close: true})
	mustBeWrong(t, begin+value+"b\r\n\r", 431)
	mustBeWrong(t, begin+value+"bbbb", 431)
	mustBeWrong(t, begin+value+"bb\r\n", 431)
	mustBeWrong(t, begin+value+"bbb\n", 400)
	mustBeWrong(t, "GET /\r\nA: "+value+strings.Repeat("b", 13), 431)
}

func TestWrongRequestLines(t *testing.T) {
	for _, fields := range []string{"", host, host + host, "Content-Length: 5000\r\n", host + "Content-Length: x\r\n", "Transfer-Encoding: gzip\r\n"} {
		for _, s := range []string{"GET", "GET /", "GET  / HTTP/1.1", "GET / HTTP/1.1 ", "GET / http/1.1", "G:T / HTTP/1.1", "GET / HTTP/1.10", " ", "G(T / HTTP/2.0"} {
			mustBeWrong(t, s+"\r\n"+fields+"\r\n", 400)
			mustGoOn(t, s+"\r\n"+fields)
		}
		for _, s := range []string{"0.9", "1.2", "2.0", "3.0", "9.9", "0.1"} {
			mustBeWrong(t, "GET / HTTP/"+s+"\r\n"+fields+"\r\n", 505)
			mustGoOn(t, "GET / HTTP/"+s+"\r\n"+fields)
			// What is wrong with the head is told ahead of it.
			mustBeWrong(t, "GET / HTTP/"+s+"\r\n"+fields+"A : b\r\n", 400)
			mustBeWrong(t, "GET / HTTP/"+s+"\r\n"+fields+strings.Repeat("A: b\r\n", 33-strings.Count(fields, "\n")), 431)
		}
	}
}

func TestHosts(t *testing.T) {
	for n := range 4 {
		for _, name := range []string{"Host: x\r\n", "host:\r\n", "HOST: a, b\r\n", "hOsT: \xff\r\n"} {
			for _, more := range []string{"", "A: b\r\n", "Hosts: x\r\n", "X-Host: y\r\n"} {
				fields := more + strings.Repeat(name, n)
				if n != 1 {
					mustBeWrong(t, "GET / HTTP/1.1\r\n"+fields+"\r\n", 400)
				} else {
					mustCome(t, []string{"GET / HTTP/1.1\r\n" + fields + "\r"}, nil, 0, 17+len(fields))
				}
				if n > 1 {
					mustBeWrong(t, "GET / HTTP/1.0\r\n"+fields+"\r\n", 400)
				}
				for minor := range 2 {
					p := inlet.New()
					mustAdd(t, p, fmt.Sprintf("GET / HTTP/1.%d\r\n%s\r\n", minor, fields), api.OK)
					want := 200
					if n > 1 || n == 0 && minor == 1 {
						want = 400
					}
					if _, status := p.Next(); status != want {
						t.Errorf("%q of 1.%d: %d, want %d", fields, minor, status, want)
					}
				}
			}
		}
	}
	mustBeWrong(t, "GET / HTTP/1.1\r\nHost: x\r\nA: b\r\nhost: x\r\n\r\n", 400)
	// The host is asked for ahead of the body.
	for _, s := range []string{"Content-Length: 5000\r\n", "Content-Length: 99999999999999999999\r\n"} {
		mustBeWrong(t, "GET / HTTP/1.1\r\n"+s+"\r\n", 400)
		mustBeWrong(t, "GET / HTTP/1.1\r\n"+host+host+s+"\r\n", 400)
		mustBeWrong(t, "GET / HTTP/1.1\r\n"+host+s+"\r\n", 413)
		mustBeWrong(t, "GET / HTTP/1.0\r\n"+s+"\r\n", 413)
	}
}

func TestFrames(t *testing.T) {
	for _, begin := range []string{"PUT / HTTP/1.1\r\n" + host, "PUT / HTTP/1.0\r\n"} {
		for _, s := range []string{
			"Content-Length:\r\n", "Content-Length: x\r\n", "Content-Length: -1\r\n", "Content-Length: +1\r\n", "Content-Length: 01\r\n", "Content-Length: 1 1\r\n", "Content-Length: 0x1\r\n", "Content-Length: 5, 5\r\n", "Content-Length: 5\r\ncontent-length: 5\r\n", "Content-Length: 5000\r\nContent-Length: 5000\r\n",
			"Transfer-Encoding: gzip\r\n", "Transfer-Encoding: gzip, chunked\r\n", "Transfer-Encoding: chunked, chunked\r\n", "Transfer-Encoding:\r\n", "Transfer-Encoding: identity\r\n", "Transfer-Encoding: \"chunked\"\r\n",
			"Transfer-Encoding: chunked\r\nTransfer-Encoding: chunked\r\n", "Transfer-Encoding: chunked\r\nContent-Length: 0\r\n", "Content-Length: 5\r\nTransfer-Encoding: chunked\r\n", "Content-Length: 5000\r\nTransfer-Encoding: chunked\r\n",
		} {
			mustBeWrong(t, begin+s+"\r\n", 400)
		}
		for _, n := range []string{"4097", "5000", "100000", "9223372036854775807", "9223372036854775808", "18446744073709551616", "18446744073709551617"} {
			mustBeWrong(t, begin+"Content-Length: "+n+"\r\n\r\n", 413)
		}
	}
}

func TestBodiesOfALength(t *testing.T) {
	for _, n := range []int{0, 1, 2, 4095, 4096} {
		head := fmt.Sprintf("PUT / HTTP/1.1\r\n%sContent-Length: %d\r\n\r\n", host, n)
		for _, piece := range []string{"x", "\r\n\r\n", "GET / HTTP/1.0\r\n\r\n", "\x00\xff\n"} {
			body := strings.Repeat(piece, n)[:n]
			mustBeWhole(t, head+body, api.Request{Method: "PUT", Target: "/", Fields: of("Host", "x", "Content-Length", fmt.Sprint(n))})
		}
	}
}

func TestBodiesInChunks(t *testing.T) {
	head := "PUT / HTTP/1.1\r\n" + host + "Transfer-Encoding: chunked\r\n\r\n"
	want := api.Request{Method: "PUT", Target: "/", Fields: of("Host", "x", "Transfer-Encoding", "chunked")}
	for _, n := range []int{0, 1, 2, 4095, 4096} {
		for _, by := range []int{7, 256, 4096} {
			mustBeWhole(t, head+chunk.Write(strings.Repeat("\r\n0\r\n\r\n", n)[:n], by), want)
		}
	}
	for _, s := range []string{"\r\n", "z\r\n", "1\n", "1\r\nab", "1\r\na\n", "1\r\na\rx", "0\r\nA\r\n", "0\r\n\n", "00000000000000001\r\n", strings.Repeat("0", 256), "0x1\r\n", "-1\r\n"} {
		mustBeWrong(t, head+s, 400)
		mustBeWrong(t, head+"3\r\nabc\r\n"+s, 400)
	}
	for _, s := range []string{"1001\r\n", "ffffffffffffffff\r\n", "1000\r\n" + strings.Repeat("x", 4096) + "\r\n1\r\n", "0\r\n" + strings.Repeat("A:\r\n", 17), "1001;x\r\n"} {
		mustBeWrong(t, head+s, 413)
	}
	mustBeWrong(t, head+"3\r\nabc\r\nffe\r\n", 413)
	mustGoOn(t, head+"3\r\nabc\r\nffd\r\n")
}

// P12.4

// cutUp is a text in parts of at most so many bytes.
func cutUp(r *rand.Rand, s string, most int) []string {
	var parts []string
	for s != "" {
		n := min(r.Intn(most+1), len(s))
		parts = append(parts, s[:n])
		s = s[n:]
	}
	return parts
}

var pieces = []string{
	"GET / HTTP/1.1\r\nHost: x\r\n\r\n", "G /a HTTP/1.0\r\n\r\n", "PUT /b HTTP/1.0\r\nContent-Length: 7\r\n\r\n0\r\n\r\n\r\n", "P / HTTP/1.1\r\nhost: y\r\nTransfer-Encoding: chunked\r\n\r\n3\r\nabc\r\n0\r\n\r\n",
	"P / HTTP/1.0\r\nContent-Length: 4097\r\n\r\n", "P / HTTP/1.0\r\nTransfer-Encoding: chunked\r\n\r\n1001\r\n", "P / HTTP/1.2\r\n\r\n",
	"P / HTTP/1.0\r\n", "GET ", "/", " HTTP/1.1", "\r\n", "\n", "x", host, "Content-Length: ", "4096", "3", "Transfer-Encoding: chunked\r\n", "0\r\n\r\n", "5\r\nabcde\r\n", "1001\r\n", "Connection: close\r\n", "A: b\r\n", " ",
}

// someText is some requests, of which some are wrong.
func someText(r *rand.Rand) string {
	s := ""
	for range r.Intn(12) {
		if r.Intn(3) == 0 {
			s += pieces[r.Intn(len(pieces))]
		} else {
			s += pieces[r.Intn(4)]
		}
	}
	return s
}

// mustBeAsModel holds what a text comes to in these parts against the second
// way, if Next is asked behind each part, and if it is asked at the end.
func mustBeAsModel(t *testing.T, parts []string) {
	t.Helper()
	s := strings.Join(parts, "")
	list, wrong, left := sofar(s)
	mustCome(t, parts, list, wrong, left)
	if len(s) > api.MaxKeep {
		return
	}
	p := inlet.New()
	for _, part := range parts {
		mustAdd(t, p, part, api.OK)
	}
	for _, want := range list {
		mustNext(t, p, want)
	}
	mustNone(t, p, wrong)
	mustLeft(t, p, left)
}

func TestAllShortTexts(t *testing.T) {
	some := []string{"P / HTTP/1.0\r\n", "\r\n", "Content-Length: 2\r\n", "Transfer-Encoding: chunked\r\n", "0\r\n", "Host:\r\n"}
	count := make(map[string]int)
	texts(6, some, func(s string) {
		mustBeAsModel(t, []string{s})
		list, wrong, _ := sofar(s)
		count[fmt.Sprint(len(list), wrong)]++
	})
	for _, kind := range []string{"0 0", "0 400", "1 0", "1 400", "2 0", "2 400", "3 0"} {
		if count[kind] == 0 {
			t.Errorf("of %q there is none: %v", kind, count)
		}
	}
}

func TestManyTextsInManyCuts(t *testing.T) {
	r := rand.New(rand.NewSource(12))
	count := make(map[string]int)
	for range 4000 {
		s := someText(r)
		list, wrong, left := sofar(s)
		for _, most := range []int{1, 3, 20, 300} {
			mustBeAsModel(t, cutUp(r, s, most))
		}
		mustCome(t, bytesOf(s), list, wrong, left)
		count[fmt.Sprint(min(len(list), 4), wrong)]++
	}
	for _, kind := range []string{"0 0", "0 400", "0 413", "0 505", "1 400", "2 400", "2 413", "2 505", "4 0", "4 400"} {
		if count[kind] < 5 {
			t.Errorf("of %q there are but few: %v", kind, count)
		}
	}
}

func TestAllCutsInTwo(t *testing.T) {
	good := strings.Join(pieces[:4], "")
	for _, s := range []string{
		good, good + "GET", good + "\n", good + "P / HTTP/1.0\r\nContent-Length: 4097\r\n\r\n", good + "P / HTTP/1.0\r\nTransfer-Encoding: chunked\r\n\r\n1001\r\n", good + "P / HTTP/2.0\r\n\r\n" + good,
	} {
		for at := range len(s) + 1 {
			mustBeAsModel(t, []string{s[:at], s[at:]})
		}
	}
}

// Next may be asked at any time, and not at all for a while.
func TestAddAndNextInAnyTurns(t *testing.T) {
	r := rand.New(rand.NewSource(4))
	for range 3000 {
		s := someText(r)
		list, wrong, left := sofar(s)
		p := inlet.New()
		for _, part := range cutUp(r, s, 60) {
			if e := p.Add(part); e == api.ErrState {
				break
			}
			for range r.Intn(3) {
				got, status := p.Next()
				if status != 200 {
					break
				}
				if len(list) == 0 || !same(got, list[0]) {
					t.Fatalf("%.300q: %+v", s, got)
				}
				list = list[1:]
			}
		}
		for _, want := range list {
			mustNext(t, p, want)
		}
		mustNone(t, p, wrong)
		if wrong == 0 {
			mustLeft(t, p, left)
		}
	}
}

// The rules that hold everywhere.

// shares: whether two texts have memory in common.
func shares(a, b string) bool {
	if a == "" || b == "" {
		return false
	}
	startA, startB := uintptr(unsafe.Pointer(unsafe.StringData(a))), uintptr(unsafe.Pointer(unsafe.StringData(b)))
	return startA < startB+uintptr(len(b)) && startB < startA+uintptr(len(a))
}

func TestAnswersAreNewMemory(t *testing.T) {
	s := strings.Clone("GET /abc HTTP/1.1")
	method, target, _, _ := inlet.Line(s)
	if shares(s, method) || shares(s, target) || shares(method, target) {
		t.Error("Line's answers share memory")
	}
	text := strings.Clone("GET /abc HTTP/1.1\r\nHost: x\r\n\r\n")
	p := inlet.New()
	p.Add(text + text)
	one, _ := p.Next()
	two, _ := p.Next()
	for _, pair := range [][2]string{{text, one.Method}, {text, one.Target}, {text, one.Fields[0].Value}, {one.Target, two.Target}} {
		if shares(pair[0], pair[1]) {
			t.Errorf("%q and %q share memory", pair[0], pair[1])
		}
	}
	one.Fields[0].Value = "other"
	if _ = append(one.Fields, api.Field{}); two.Fields[0].Value != "x" {
		t.Errorf("%+v", two)
	}
}

// What is answered stays as it is, whatever is done then, and what is handed
// in may become something else.
func TestNothingThatIsHandedInIsKept(t *testing.T) {
	room := make([]byte, 0, 400)
	p := inlet.New()
	add := func(s string) {
		room = append(room[:0], s...)
		mustAdd(t, p, unsafe.String(unsafe.SliceData(room), len(room)), api.OK)
		for i := range room {
			room[i] = '?'
		}
	}
	add("PUT /a HTTP/1.1\r\nHo")
	add("st: x\r\nContent-Length: 3\r\n\r\na")
	mustNone(t, p, 0)
	add("bcGET /b HTTP/1.0\r\n")
	first, status := p.Next()
	add("A: b\r\n\r\n")
	second, again := p.Next()
	add("HEAD")
	if want := (api.Request{Method: "PUT", Target: "/a", Fields: of("Host", "x", "Content-Length", "3")}); !same(first, want) || status != 200 {
		t.Errorf("%+v, %d", first, status)
	}
	if want := (api.Request{Method: "GET", Target: "/b", Fields: of("A", "b"), Close: true}); !same(second, want) || again != 200 {
		t.Errorf("%+v, %d", second, again)
	}
}

func TestInletsStandApart(t *testing.T) {
	one, two := inlet.New(), inlet.New()
	mustAdd(t, one, "GET /1 HTTP/1.0\r\n", api.OK)
	mustAdd(t, two, "PUT /2 HTTP/1.0\r\nTransfer-Encoding: chunked\r\n\r\n1\r\n", api.OK)
	mustNone(t, one, 0)
	mustNone(t, two, 0)
	mustAdd(t, one, "\n", api.OK)
	mustAdd(t, two, "x\r\n0\r\n\r\n", api.OK)
	mustNone(t, one, 400)
	mustNext(t, two, api.Request{Method: "PUT", Target: "/2", Fields: of("Transfer-Encoding", "chunked"), Close: true})
	mustNone(t, inlet.New(), 0)
	mustAdd(t, two, "GET", api.OK)
	mustNone(t, one, 400)
}

// Many bytes: what takes steps for each pair of them would never end.

func TestLongRows(t *testing.T) {
	p := inlet.New()
	one := "GET / HTTP/1.0\r\nA: b\r\n\r\n"
	want := api.Request{Method: "GET", Target: "/", Fields: of("A", "b"), Close: true}
	for range 500 {
		mustAdd(t, p, strings.Repeat(one, api.MaxKeep/len(one)), api.OK)
		for range api.MaxKeep / len(one) {
			mustNext(t, p, want)
		}
		mustNone(t, p, 0)
		mustLeft(t, p, 0)
	}
}

func TestLongHeadsByteByByte(t *testing.T) {
	begin := "GET / HTTP/1.0\r\n" + strings.Repeat("A: "+strings.Repeat("b", 115)+"\r\n", 32) + "\r\n"
	body := "PUT / HTTP/1.0\r\nContent-Length: 4096\r\n\r\n" + strings.Repeat("x", 4096)
	chunks := "PUT / HTTP/1.0\r\nTransfer-Encoding: chunked\r\n\r\n" + chunk.Write(strings.Repeat("x", 4096), 1)
	p := inlet.New()
	got := 0
	for range 50 {
		s := begin + body + chunks
		for i := range len(s) {
			if e := p.Add(s[i : i+1]); e != api.OK {
				t.Fatal(e)
			}
			if _, status := p.Next(); status == 200 {
				got++
			}
		}
	}
	if got != 150 || p.Left() != 0 {
		t.Error(got, p.Left())
	}
}

// A head of which nothing more has come isn't gone through once more, and
// neither is one of which no line more has ended.
func TestWhatWasReadIsNotReadAgain(t *testing.T) {
	p := inlet.New()
	next := func() { p.Next() }
	for range 3 {
		mustAdd(t, p, "GET / HTTP/1.0\r\nA: "+strings.Repeat("b", 3000), api.OK)
		next()
		for range 3 {
			if n := testing.AllocsPerRun(10, next); n > 0 {
				t.Errorf("%v pieces of memory for nothing", n)
			}
			mustAdd(t, p, "c", api.OK)
		}
		mustAdd(t, p, "\r\n\r\n", api.OK)
		if _, status := p.Next(); status != 200 {
			t.Error(status)
		}
	}
}

// P1, and all answers held against the second way of working them out.

func FuzzNext(f *testing.F) {
	for i, s := range pieces {
		f.Add(s, int64(i))
	}
	f.Add(strings.Join(pieces[:4], ""), int64(1))
	f.Add(strings.Repeat("x", 5000), int64(2))
	f.Fuzz(func(t *testing.T, s string, seed int64) {
		r := rand.New(rand.NewSource(seed))
		list, wrong, left := sofar(s)
		mustBeAsModel(t, cutUp(r, s, 1+r.Intn(100)))
		mustCome(t, bytesOf(s), list, wrong, left)
	})
}

func FuzzLine(f *testing.F) {
	for _, s := range []string{"", "GET / HTTP/1.1", "GET / HTTP/2.0", "G T /", "\xff"} {
		f.Add(s)
	}
	f.Fuzz(func(t *testing.T, s string) { mustBeAsLine(t, s) })
}
