package field_test

import (
	"fmt"
	"math"
	"math/rand"
	"reflect"
	"slices"
	"strings"
	"testing"
	"unsafe"

	"manciple/api"
	"manciple/field"
)

// texts calls do with all texts of at most most of the pieces.
func texts(most int, pieces []string, do func(s string)) {
	var more func(s string, left int)
	more = func(s string, left int) {
		do(s)
		if left == 0 {
			return
		}
		for _, piece := range pieces {
			more(s+piece, left-1)
		}
	}
	more("", most)
}

// of makes a list of names and values, in turns.
func of(pairs ...string) []api.Field {
	var list []api.Field
	for i := 0; i < len(pairs); i += 2 {
		list = append(list, api.Field{Name: pairs[i], Value: pairs[i+1]})
	}
	return list
}

func oneByte(b int) string { return string([]byte{byte(b)}) }

func mustToken(t *testing.T, s string, want bool) {
	t.Helper()
	if field.IsToken(s) != want {
		t.Errorf("IsToken of %.80q isn't %v", s, want)
	}
}

func mustParse(t *testing.T, line, name, value string) {
	t.Helper()
	if f, e := field.Parse(line); f != (api.Field{Name: name, Value: value}) || e != api.OK {
		t.Errorf("Parse of %.80q: %.80q, error %d, want %.80q and %.80q", line, f, e, name, value)
	}
}

func mustNotParse(t *testing.T, line string) {
	t.Helper()
	if f, e := field.Parse(line); f != (api.Field{}) || e != api.ErrForm {
		t.Errorf("Parse of %.80q: %.80q, error %d, want ErrForm and nothing else", line, f, e)
	}
}

func mustSplit(t *testing.T, s, start string, list []api.Field, size int) {
	t.Helper()
	if got, l, n, e := field.Split(s); got != start || !slices.Equal(l, list) || n != size || e != api.OK {
		t.Errorf("Split of %.80q, %d bytes: %.80q, %.80q, %d, error %d, want %.80q, %.80q, %d", s, len(s), got, l, n, e, start, list, size)
	}
}

func mustNotSplit(t *testing.T, s string, want api.Errno) {
	t.Helper()
	if got, l, n, e := field.Split(s); got != "" || len(l) != 0 || n != 0 || e != want {
		t.Errorf("Split of %.80q, %d bytes: %.80q, %.80q, %d, error %d, want error %d and nothing else", s, len(s), got, l, n, e, want)
	}
}

func mustGet(t *testing.T, list []api.Field, name, value string, count int) {
	t.Helper()
	if s, n := field.Get(list, name); s != value || n != count {
		t.Errorf("Get of %q of %q: %q, %d, want %q, %d", name, list, s, n, value, count)
	}
}

func mustElements(t *testing.T, value string, want ...string) {
	t.Helper()
	if got := field.Elements(of("A", value), "A"); !slices.Equal(got, want) {
		t.Errorf("Elements of %q: %q, want %q", value, got, want)
	}
}

func mustParams(t *testing.T, s, head string, list ...api.Field) {
	t.Helper()
	if h, l, e := field.Params(s); h != head || !slices.Equal(l, list) || e != api.OK {
		t.Errorf("Params of %q: %q, %q, error %d, want %q, %q", s, h, l, e, head, list)
	}
}

func mustNotParams(t *testing.T, s string) {
	t.Helper()
	if h, l, e := field.Params(s); h != "" || len(l) != 0 || e != api.ErrForm {
		t.Errorf("Params of %q: %q, %q, error %d, want ErrForm and nothing else", s, h, l, e)
	}
}

func mustFrame(t *testing.T, list []api.Field, most, length int, chunks bool, want api.Errno) {
	t.Helper()
	if n, c, e := field.Frame(list, most); n != length || c != chunks || e != want {
		t.Errorf("Frame of %.200q, most %d: %d, %v, error %d, want %d, %v, error %d", list, most, n, c, e, length, chunks, want)
	}
}

func mustClose(t *testing.T, list []api.Field, minor int, want bool) {
	t.Helper()
	if field.Closes(list, minor) != want {
		t.Errorf("Closes of %.200q, %d isn't %v", list, minor, want)
	}
}

// The chapter's examples.

func TestExamples(t *testing.T) {
	mustParse(t, "Host: a b ", "Host", "a b")
	mustNotParse(t, "Host : a")
	mustElements(t, `a, "b,c" ,,d`, "a", `"b,c"`, "d")
}

// P10.1

func TestBytesOfTokens(t *testing.T) {
	const some = "!#$%&'*+-.^_`|~0123456789ABCDEFGHIJKLMNOPQRSTUVWXYZabcdefghijklmnopqrstuvwxyz"
	for b := range 256 {
		s := oneByte(b)
		want := strings.Contains(some, s) && b < 128
		for _, text := range []string{s, s + "a", "a" + s, "a" + s + "z", s + s} {
			mustToken(t, text, want)
		}
	}
	mustToken(t, "", false)
	mustToken(t, some, true)
	mustToken(t, strings.Repeat(some, 1000), true)
	mustToken(t, strings.Repeat(some, 1000)+" ", false)
	for _, s := range []string{"caf\u00e9", "\u212a", "\ufffd", "a b", " a", "a ", "a\r\n", "a\n", `"a"`, "a:b", "a=b", "a/b", "a@b", "a{}"} {
		mustToken(t, s, false)
	}
}

func TestBytesOfValues(t *testing.T) {
	for b := range 256 {
		s := oneByte(b)
		good := b == 9 || b == 32 || b >= 0x21 && b <= 0x7e || b >= 0x80
		blank := b == 9 || b == 32
		if !good {
			for _, line := range []string{"A:" + s, "A: " + s, "A:x" + s, "A:" + s + "x", "A:x" + s + "y", "A:x " + s + " "} {
				mustNotParse(t, line)
			}
		} else {
			mustParse(t, "A:x"+s+"y", "A", "x"+s+"y")
			mustParse(t, "A:"+s, "A", strings.Trim(s, " \t"))
			mustParse(t, "A:\t "+s+" \t", "A", strings.Trim(s, " \t"))
		}
		for value, want := range map[string]bool{s: good && !blank, "x" + s: good && !blank, s + "x": good && !blank, "x" + s + "y": good} {
			if field.Good(api.Field{Name: "A", Value: value}) != want {
				t.Errorf("Good of the value %q isn't %v", value, want)
			}
		}
	}
}

func TestBytesOfNames(t *testing.T) {
	for b := range 256 {
		s := oneByte(b)
		for _, name := range []string{s, "x" + s, s + "x", "x" + s + "y"} {
			want := isToken(name)
			if field.Good(api.Field{Name: name, Value: "v"}) != want {
				t.Errorf("Good of the name %q isn't %v", name, want)
			}
			switch {
			case want:
				mustParse(t, name+":v", name, "v")
			case b != ':' || name == s || name == s+"x":
				mustNotParse(t, name+":v")
			}
		}
	}
}

func TestLines(t *testing.T) {
	for line, f := range map[string]api.Field{
		"A:":                {Name: "A"},
		"A: ":               {Name: "A"},
		"A: \t \t":          {Name: "A"},
		"A:b":               {Name: "A", Value: "b"},
		"A:  b":             {Name: "A", Value: "b"},
		"A:b\t":             {Name: "A", Value: "b"},
		"A:b \tc":           {Name: "A", Value: "b \tc"},
		"A:\tb  c \t ":      {Name: "A", Value: "b  c"},
		"A::":               {Name: "A", Value: ":"},
		"A: b: c":           {Name: "A", Value: "b: c"},
		"a-B_9:\"x\"":       {Name: "a-B_9", Value: "\"x\""},
		"A: \xc2\xa0b\xff ": {Name: "A", Value: "\xc2\xa0b\xff"},
		"A:\u3000b\u2003":   {Name: "A", Value: "\u3000b\u2003"},
		"~: ~":              {Name: "~", Value: "~"},
	} {
		mustParse(t, line, f.Name, f.Value)
	}
	for _, line := range []string{"", ":", ": b", "A", "Ab", " A: b", "\tA: b", "A : b", "A\t: b", "A b: c", "A: b\r", "A: b\n", "A: b\r\n", "A:\rb", "A: b\r\n c", "\r\n", "\r", "\n", "(A): b", "\"A\": b", "A\x00: b", "\xc3\xa9: b"} {
		mustNotParse(t, line)
	}
}

func TestParseOfAllShortLines(t *testing.T) {
	pieces := []string{"A", "b", ":", " ", "\t", "\r", "\n", "\"", "\x7f", "\xff"}
	texts(5, pieces, func(s string) {
		if f, e := parse(s); e != api.OK {
			mustNotParse(t, s)
		} else {
			mustParse(t, s, f.Name, f.Value)
		}
	})
}

func TestPrintAndGood(t *testing.T) {
	for _, f := range []api.Field{{}, {Name: "A"}, {Value: "b"}, {Name: "A", Value: "b"}, {Name: " A ", Value: " b "}, {Name: "A:B", Value: "\r\n\x00\xff"}} {
		if s := field.Print(f); s != f.Name+":"+" "+f.Value {
			t.Errorf("Print of %q: %q", f, s)
		}
	}
	for f, want := range map[api.Field]bool{
		{}:                            false,
		{Name: "A"}:                   true,
		{Value: "b"}:                  false,
		{Name: "A", Value: "b c\td"}:  true,
		{Name: "A", Value: " "}:       false,
		{Name: "A", Value: "\t"}:      false,
		{Name: "A", Value: " b"}:      false,
		{Name: "A", Value: "b\t"}:     false,
		{Name: "A", Value: "b\r"}:     false,
		{Name: "A", Value: "b\nC: d"}: false,
		{Name: "A ", Value: "b"}:      false,
		{Name: "A:", Value: "b"}:      false,
		{Name: "A", Value: "\u00a0"}:  true,
	} {
		if field.Good(f) != want {
			t.Errorf("Good of %q isn't %v", f, want)
		}
	}
}

// P8: what can be written is read as it was, and nothing else is read.
func TestWhatIsReadCanBeWritten(t *testing.T) {
	some := []string{"A", ":", " ", "\t", "\r", "b\xff", ","}
	texts(3, some, func(name string) {
		texts(3, some, func(value string) {
			f := api.Field{Name: name, Value: value}
			if field.Good(f) != good(f) {
				t.Errorf("Good of %q isn't %v", f, good(f))
			}
			if back, e := field.Parse(field.Print(f)); (back == f && e == api.OK) != good(f) {
				t.Errorf("%q is read as %q, error %d", f, back, e)
			}
			if back, e := field.Parse(name + ":" + value); e == api.OK && !field.Good(back) {
				t.Errorf("%q is read, and can't be written", back)
			}
		})
	})
}

// P10.2

func TestHeads(t *testing.T) {
	mustSplit(t, "a\r\n\r\n", "a", nil, 5)
	mustSplit(t, "a b c\r\n\r\n\r\n", "a b c", nil, 9)
	mustSplit(t, "GET / HTTP/1.1\r\nHost: h\r\n\r\n", "GET / HTTP/1.1", of("Host", "h"), 27)
	mustSplit(t, "a\r\nX:1\r\nY: \t2\t\r\nx:3\r\n\r\nbody\r\nZ: 4\r\n\r\n", "a", of("X", "1", "Y", "2", "x", "3"), 23)
	mustSplit(t, "a\r\nX:\r\nX:\r\n\r\n", "a", of("X", "", "X", ""), 13)
	mustSplit(t, "a\r\n\r\n\n\r\x00", "a", nil, 5)
}

// The start line may have any bytes but those of its end.
func TestStartLines(t *testing.T) {
	for b := range 256 {
		s := oneByte(b)
		for _, line := range []string{s, s + "x", "x" + s, "x" + s + "y"} {
			if b == '\r' || b == '\n' {
				mustNotSplit(t, line+"\r\n\r\n", api.ErrForm)
			} else {
				mustSplit(t, line+"\r\nA: b\r\n\r\n", line, of("A", "b"), len(line)+10)
			}
		}
	}
	for _, n := range []int{1, 2, 1022, 1023, 1024} {
		line := strings.Repeat("s", n)
		mustSplit(t, line+"\r\n\r\n", line, nil, n+4)
		mustNotSplit(t, line+"\r\n", api.ErrShort)
	}
	for _, n := range []int{1025, 1026, 2000, 4093, 4094} {
		line := strings.Repeat("s", n)
		mustNotSplit(t, line, api.ErrShort)
		mustNotSplit(t, line+"\r", api.ErrShort)
		mustNotSplit(t, line+"\r\n", api.ErrLong)
		mustNotSplit(t, line+"\r\n\r\n", api.ErrLong)
		mustNotSplit(t, line+"\n", api.ErrForm)
		mustNotSplit(t, line[1:]+"\r\r\n", api.ErrForm)
		mustNotSplit(t, "\r"+line[1:]+"\r\n", api.ErrForm)
	}
}

func TestEndsOfLines(t *testing.T) {
	for _, s := range []string{
		"\n", "\r\n", "a\n", "\r\r\n", "a\r\r\n", "a\rb\r\n", "\ra\r\n", "\na\r\n\r\n", "\r\na\r\n\r\n", "a\n\n", "a\n\r\n", "a\r\n\n", "a\r\n\r\r\n",
		"a\r\nX: 1\n", "a\r\nX: 1\n\r\n", "a\r\nX: 1\r\r\n", "a\r\nX:\r1\r\n", "a\r\n\rX: 1\r\n", "a\r\nX: 1\r\n\n", "a\r\nX: 1\r\n\r\r\n",
	} {
		mustNotSplit(t, s, api.ErrForm)
		mustNotSplit(t, s+"\r\n\r\n", api.ErrForm)
		mustNotSplit(t, s+strings.Repeat("x", 5000), api.ErrForm)
	}
}

func TestLinesThatAreNoFields(t *testing.T) {
	for _, line := range []string{"X", " X: 1", "\tX: 1", " ", "\t", "X : 1", ": 1", ":", "X: 1\x00", "X: \x7f", "X\x00: 1", "X y: 1", " folded"} {
		mustNotSplit(t, "a\r\n"+line+"\r\n", api.ErrForm)
		mustNotSplit(t, "a\r\nA: b\r\n"+line+"\r\n", api.ErrForm)
		mustNotSplit(t, "a\r\n"+line+"\r\n\r\n", api.ErrForm)
		mustNotSplit(t, "a\r\n"+line, api.ErrShort)
		mustNotSplit(t, "a\r\n"+line+"\r", api.ErrShort)
		mustSplit(t, "a\r\n\r\n"+line+"\r\n\r\n", "a", nil, 5)
	}
}

func TestCountOfFields(t *testing.T) {
	var list []api.Field
	var lines strings.Builder
	for i := range 40 {
		s := "a\r\n" + lines.String()
		if i <= 32 {
			mustNotSplit(t, s, api.ErrShort)
			mustSplit(t, s+"\r\n", "a", list, len(s)+2)
			mustNotSplit(t, s+"no field\r\n\r\n", api.ErrForm)
		} else {
			mustNotSplit(t, s, api.ErrLong)
			mustNotSplit(t, s+"\r\n", api.ErrLong)
			mustNotSplit(t, s+"no field\r\n\r\n", api.ErrLong)
		}
		f := api.Field{Name: fmt.Sprint("X", i), Value: fmt.Sprint(i)}
		list = append(list, f)
		lines.WriteString(field.Print(f) + "\r\n")
	}
	// The field behind the last one that may be is told when its line ends.
	full := "a\r\n" + strings.Repeat("X: 1\r\n", 32)
	mustNotSplit(t, full+"X: 1\r", api.ErrShort)
	mustNotSplit(t, full+"X: 1\r\n", api.ErrLong)
	mustNotSplit(t, full+"X: 1\n", api.ErrForm)
	mustNotSplit(t, full+"X\r\n", api.ErrForm)
	mustNotSplit(t, full+"\n", api.ErrForm)
}

// Of two things that are wrong that of the line ahead is told.
func TestFirstWrongLine(t *testing.T) {
	long := strings.Repeat("s", 1025)
	many := strings.Repeat("X: 1\r\n", 33)
	mustNotSplit(t, long+"\r\nX\r\n", api.ErrLong)
	mustNotSplit(t, long+"\n"+many, api.ErrForm)
	mustNotSplit(t, "a\r\n"+many+"X\r\n", api.ErrLong)
	mustNotSplit(t, "a\r\nX\r\n"+many, api.ErrForm)
	mustNotSplit(t, "a\r\nX\r\n"+strings.Repeat("v", 5000), api.ErrForm)
	mustNotSplit(t, "\r\n"+strings.Repeat("v", 5000), api.ErrForm)
	mustNotSplit(t, long+"\r\n"+strings.Repeat("v", 5000), api.ErrLong)
}

// headOf is a head of so many bytes.
func headOf(size int) string {
	return "a\r\nX: " + strings.Repeat("v", size-10) + "\r\n\r\n"
}

func TestBytesOfAHead(t *testing.T) {
	for _, n := range []int{10, 11, 1000, 4094, 4095, 4096} {
		s := headOf(n)
		want := of("X", strings.Repeat("v", n-10))
		mustSplit(t, s, "a", want, n)
		mustSplit(t, s+"x", "a", want, n)
		mustSplit(t, s+strings.Repeat("\n", 5000), "a", want, n)
		for cut := 1; cut <= 7; cut++ {
			mustNotSplit(t, s[:n-cut], api.ErrShort)
		}
	}
	for _, n := range []int{4097, 4098, 4099, 4100, 4101, 5000, 1 << 20} {
		mustNotSplit(t, headOf(n), api.ErrLong)
		mustNotSplit(t, headOf(n)[:4096], api.ErrLong)
		mustNotSplit(t, headOf(n)[:4095], api.ErrShort)
	}
	mustNotSplit(t, strings.Repeat("a", 4095), api.ErrShort)
	mustNotSplit(t, strings.Repeat("a", 4096), api.ErrLong)
	mustNotSplit(t, strings.Repeat("a", 1<<20), api.ErrLong)
	mustNotSplit(t, strings.Repeat("\r", 4095), api.ErrShort)
	mustNotSplit(t, strings.Repeat("\r", 4096), api.ErrLong)
	mustNotSplit(t, "a\r\n"+strings.Repeat(" ", 4092), api.ErrShort)
	mustNotSplit(t, "a\r\n"+strings.Repeat(" ", 4093), api.ErrLong)
}

// A line that ends at the byte behind the last one that a head may have isn't
// judged, whatever it is.
func TestLinesAtTheEndOfAHead(t *testing.T) {
	for _, line := range []string{"X\r\n", "X: \x00\r\n", "X: 1\n", "\n", "X: 1\r\r\n", " X: 1\r\n"} {
		room := strings.Repeat("v", 4096-len("a\r\nX: \r\n")-len(line))
		mustNotSplit(t, "a\r\nX: "+room+"\r\n"+line, api.ErrForm)
		mustNotSplit(t, "a\r\nX: "+room+"v\r\n"+line, api.ErrLong)
		mustNotSplit(t, "a\r\nX: "+room+"v\r\n"+line+"\r\n\r\n", api.ErrLong)
	}
	mustNotSplit(t, strings.Repeat("a", 4095)+"\n", api.ErrForm)
	mustNotSplit(t, strings.Repeat("a", 4096)+"\n", api.ErrLong)
	mustNotSplit(t, strings.Repeat("a", 4094)+"\r\n", api.ErrLong)
}

func checkSplit(t *testing.T, s string) {
	t.Helper()
	start, list, n, e := split(s)
	if e != api.OK {
		mustNotSplit(t, s, e)
	} else {
		mustSplit(t, s, start, list, n)
	}
}

func TestSplitOfAllShortHeads(t *testing.T) {
	texts(6, []string{"\r\n", "\r", "\n", "a", ":", " ", "a: b\r\n"}, func(s string) { checkSplit(t, s) })
}

// someHead is mostly near a limit, mostly with little that is wrong.
func someHead(r *rand.Rand) string {
	pick := func(list ...string) string { return list[r.Intn(len(list))] }
	end := func() string {
		if r.Intn(60) == 0 {
			return pick("\n", "\r\r\n", "\r", "")
		}
		return "\r\n"
	}
	starts := []int{1, 5, 1020, 1023, 1024, 1025, 4000}
	s := strings.Repeat("s", starts[r.Intn(len(starts)-r.Intn(2)*2)]) + end()
	count := []int{0, 1, 5, 31, 32, 33}[r.Intn(6)]
	for range count {
		size := []int{0, 1, 50, 90, 100, 120, 1000}[r.Intn(7)]
		line := pick("X", "Content-Length", "~") + pick(":", ": ", ":\t ") + strings.Repeat(pick("v", "\xfe", " w"), size) + pick("", " ")
		if r.Intn(80) == 0 {
			line = pick("", "X", " X: 1", "X : 1", "X: \x00", "\x00: 1", ":")
		}
		s += line + end()
	}
	return s + pick("\r\n", "\r\n", "", "\r", "\n") + pick("", "body", "\r\n\r\n")
}

func TestSplitOfManyHeads(t *testing.T) {
	r := rand.New(rand.NewSource(10))
	seen := map[api.Errno]int{}
	for range 4000 {
		s := someHead(r)
		checkSplit(t, s)
		_, _, _, e := field.Split(s)
		seen[e]++
	}
	for _, e := range []api.Errno{api.OK, api.ErrShort, api.ErrForm, api.ErrLong} {
		if seen[e] < 200 {
			t.Errorf("the error %d came just %d times", e, seen[e])
		}
	}
}

// P10.3

func TestGet(t *testing.T) {
	list := of("A", "1", "b", "2", "a", "3", "A-B", "", "A", "")
	mustGet(t, list, "A", "1", 3)
	mustGet(t, list, "a", "1", 3)
	mustGet(t, list, "B", "2", 1)
	mustGet(t, list, "a-b", "", 1)
	for _, name := range []string{"", "c", "A-", "A-BC", "-B", "A ", " A", "A:"} {
		mustGet(t, list, name, "", 0)
		mustGet(t, nil, name, "", 0)
	}
	// Whatever stands in a list is no less a field of its name.
	mustGet(t, of("", " x "), "", " x ", 1)
	mustGet(t, of("a b", "\r\n"), "A B", "\r\n", 1)
}

// Names that differ in one byte are the same, if that is a letter's size.
func TestNamesThatAreTheSame(t *testing.T) {
	for a := range 256 {
		for b := range 256 {
			count := 0
			if a == b || a^b == 32 && (a|32) >= 'a' && (a|32) <= 'z' {
				count = 1
			}
			for _, around := range []string{"", "x"} {
				value := "v"[:count]
				mustGet(t, of(around+oneByte(a)+around, "v"), around+oneByte(b)+around, value, count)
			}
		}
	}
	mustGet(t, of("ABCDEFGHIJKLMNOPQRSTUVWXYZ", "v"), "abcdefghijklmnopqrstuvwxyz", "v", 1)
	mustGet(t, of("abcdefghijklmnopqrstuvwxyz", "v"), "ABCDEFGHIJKLMNOPQRSTUVWXYZ", "v", 1)
	// These are letters, too, but not from A to Z.
	for a, b := range map[string]string{"\u212a": "k", "\u017f": "s", "\u00c9": "\u00e9", "\u0130": "i", "\u03a3": "\u03c3"} {
		mustGet(t, of(a, "v"), b, "", 0)
		mustGet(t, of(b, "v"), a, "", 0)
		mustGet(t, of(a, "v"), a, "v", 1)
	}
}

func TestElements(t *testing.T) {
	mustElements(t, "")
	mustElements(t, ",")
	mustElements(t, " ,\t, ,")
	mustElements(t, "a", "a")
	mustElements(t, "a,b", "a", "b")
	mustElements(t, " a\t, b b ,\tc", "a", "b b", "c")
	mustElements(t, ",a,,b,", "a", "b")
	mustElements(t, "a;q=1,b", "a;q=1", "b")
	mustElements(t, `""`, `""`)
	mustElements(t, `"",""`, `""`, `""`)
	mustElements(t, `","`, `","`)
	mustElements(t, `" a , b " , c`, `" a , b "`, "c")
	mustElements(t, `x"a,b"y,c`, `x"a,b"y`, "c")
	mustElements(t, `"a","b"`, `"a"`, `"b"`)
	mustElements(t, `"a""b,c",d`, `"a""b,c"`, "d")
	mustElements(t, "a\r\n,\x00,\xff", "a\r\n", "\x00", "\xff")
	mustElements(t, "\u00a0,\u3000", "\u00a0", "\u3000")
}

func TestQuotesInElements(t *testing.T) {
	// A byte behind a backslash is passed over in quotes, and there alone.
	mustElements(t, `"a\",b",c`, `"a\",b"`, "c")
	mustElements(t, `"a\\",b`, `"a\\"`, "b")
	mustElements(t, `"a\\\",b",c`, `"a\\\",b"`, "c")
	mustElements(t, `"\,",a`, `"\,"`, "a")
	mustElements(t, `a\,b`, `a\`, "b")
	mustElements(t, `\"a,b",c`, `\"a,b"`, "c")
	mustElements(t, `a\"b,c`, `a\"b,c`)
	mustElements(t, `\\,a`, `\\`, "a")
	// What isn't ended goes to the end.
	mustElements(t, `a,"b,c, `, "a", `"b,c,`)
	mustElements(t, `"`, `"`)
	mustElements(t, `,"`, `"`)
	mustElements(t, `"\`, `"\`)
	mustElements(t, `"\"`, `"\"`)
	mustElements(t, `a,"b\",c`, "a", `"b\",c`)
	mustElements(t, `a,"b\`, "a", `"b\`)
	// But just to the end of its own field.
	got := field.Elements(of("A", `x,"y,z`, "a", `p,q",r`, "b", "no", "A", "", "A", "last"), "a")
	if want := []string{"x", `"y,z`, "p", `q",r`, "last"}; !slices.Equal(got, want) {
		t.Errorf("%q, want %q", got, want)
	}
}

func TestElementsOfOtherNames(t *testing.T) {
	list := of("Accept", "a, b", "ACCEPT", "c", "X", "d")
	for name, want := range map[string][]string{"accept": {"a", "b", "c"}, "Accept": {"a", "b", "c"}, "x": {"d"}, "Accep": nil, "": nil, "\u212a": nil} {
		if got := field.Elements(list, name); !slices.Equal(got, want) {
			t.Errorf("Elements of %q: %q, want %q", name, got, want)
		}
	}
	if got := field.Elements(nil, "a"); len(got) != 0 {
		t.Errorf("of nothing %q", got)
	}
}

func TestElementsOfAllShortValues(t *testing.T) {
	texts(7, []string{"a", ",", "\"", "\\", " "}, func(s string) {
		mustElements(t, s, elements(of("A", s), "A")...)
	})
}

func TestParams(t *testing.T) {
	mustParams(t, "", "")
	mustParams(t, " \t", "")
	mustParams(t, ";", "")
	mustParams(t, ";;\t; ", "")
	mustParams(t, " text/x ", "text/x")
	mustParams(t, "a b=c", "a b=c")
	mustParams(t, "x\r\n\x00;a=b", "x\r\n\x00", of("a", "b")...)
	mustParams(t, "a=b;c=d", "a=b", of("c", "d")...)
	mustParams(t, "x;a=b", "x", of("a", "b")...)
	mustParams(t, ";a=b;", "", of("a", "b")...)
	mustParams(t, "x ;\tA=B ; aA-Z_9=bB ;;a=b;", "x", of("a", "B", "aa-z_9", "bB", "a", "b")...)
	mustParams(t, "x;ABCDEFGHIJKLMNOPQRSTUVWXYZ!#$%&'*+-.^_`|~0=~", "x", of("abcdefghijklmnopqrstuvwxyz!#$%&'*+-.^_`|~0", "~")...)
}

func TestQuotedParams(t *testing.T) {
	mustParams(t, `x;a=""`, "x", of("a", "")...)
	mustParams(t, `x;a=" "`, "x", of("a", " ")...)
	mustParams(t, `x;a="b;c";d=e`, "x", of("a", "b;c", "d", "e")...)
	mustParams(t, `x; a=" B c "; d=e`, "x", of("a", " B c ", "d", "e")...)
	mustParams(t, `x;a="b=c,d"`, "x", of("a", "b=c,d")...)
	mustParams(t, `x;a="\""`, "x", of("a", `"`)...)
	mustParams(t, `x;a="\\"`, "x", of("a", `\`)...)
	mustParams(t, `x;a="\b\;\\\"\ "`, "x", of("a", `b;\" `)...)
	mustParams(t, `x;a="b\";c";d=e`, "x", of("a", `b";c`, "d", "e")...)
	mustParams(t, `x;a="b\\";d=e`, "x", of("a", `b\`, "d", "e")...)
	mustParams(t, "x;a=\"\x00\r\n\x7f\xff\\\x00\"", "x", of("a", "\x00\r\n\x7f\xff\x00")...)
	mustParams(t, `"x;y";a=b`, `"x;y"`, of("a", "b")...)
	mustParams(t, `x"y\";z" ;a=b`, `x"y\";z"`, of("a", "b")...)
	// Quotes of the head that aren't ended go to the end.
	mustParams(t, `x"y;a=b `, `x"y;a=b`)
	mustParams(t, `x\";a`, `x\";a`)
	for b := range 256 {
		s := oneByte(b)
		if b != '"' && b != '\\' {
			mustParams(t, `x;a="`+s+`"`, "x", of("a", s)...)
		}
		mustParams(t, `x;a="\`+s+`y"`, "x", of("a", s+"y")...)
	}
}

func TestWrongParams(t *testing.T) {
	for _, part := range []string{
		"a", "=", "=b", "a=", "a =b", "a= b", "a\t=b", "a=b c", "a b=c", "a==b", "a=b=c", "a=b,c", "a/b=c", "a=b/c", "a:b=c", "\x00=b", "a=\x00", "\xff=b", "a=\xff", "a=\u00e9", "\u212a=b",
		`"a"=b`, `"a"`, `"a=b"`, `a="`, `a="b`, `a=b"`, `a=b"c"`, `a="b"c`, `a="b" c`, `a="b""c"`, `a="""`, `a="b"c"`, `a="\"`, `a="b\"`, `a="\\\"`, `a="b"\`, `a=\"b"`, `a=\"b\"`, `a='b;c'`,
		`a= "b"`, `"`, `\`,
	} {
		mustNotParams(t, "x;"+part)
		mustNotParams(t, " x ; c=d ; "+part+" ")
		mustNotParams(t, ";"+part+";")
		if !strings.Contains(part, `"`) {
			mustNotParams(t, "x;"+part+";c=d")
		}
	}
	for b := range 256 {
		s := oneByte(b)
		if !isToken(s) && b != ' ' && b != '\t' {
			mustNotParams(t, "x;a"+s+"b=c;d=e")
			mustNotParams(t, "x;a=b"+s+"c;d=e")
		}
	}
}

func TestParamsOfAllShortTexts(t *testing.T) {
	pieces := []string{";", "=", "\"", "\\", "A", " ", "\x00"}
	texts(6, pieces, func(s string) {
		for _, s := range []string{s, "x;a=" + s} {
			if head, list, e := params(s); e != api.OK {
				mustNotParams(t, s)
			} else {
				mustParams(t, s, head, list...)
			}
		}
	})
}

// P10.4

func TestFrameOfNeither(t *testing.T) {
	for _, list := range [][]api.Field{nil, {}, of("A", "1"), of("Content-Lengt", "1", "Content-Length2", "1", "TE", "chunked", "Transfer_Encoding", "x", "Content-Type", "chunked")} {
		for _, most := range []int{math.MinInt, -1, 0, 100, math.MaxInt} {
			mustFrame(t, list, most, -1, false, api.OK)
		}
	}
}

func TestFrameInChunks(t *testing.T) {
	for _, most := range []int{math.MinInt, -1, 0, 100, math.MaxInt} {
		for _, s := range []string{"chunked", "Chunked", "CHUNKED", "chunkeD"} {
			mustFrame(t, of("Transfer-Encoding", s), most, 0, true, api.OK)
			mustFrame(t, of("A", "b", "TRANSFER-encoding", s, "Connection", "close"), most, 0, true, api.OK)
		}
		for _, s := range []string{"", " chunked", "chunked ", "chunke", "chunkedd", "gzip", "gzip, chunked", "chunked, chunked", "chunked,", "chunked;a=b", "\"chunked\"", "identity", "chun\u212aed", "0", "x\r\nchunked"} {
			mustFrame(t, of("Transfer-Encoding", s), most, 0, false, api.ErrForm)
			mustFrame(t, of("Transfer-Encoding", s, "Content-Length", "1"), most, 0, false, api.ErrForm)
		}
		mustFrame(t, of("Transfer-Encoding", "chunked", "transfer-encoding", "chunked"), most, 0, false, api.ErrForm)
		mustFrame(t, of("Transfer-Encoding", "chunked", "transfer-encoding", ""), most, 0, false, api.ErrForm)
		mustFrame(t, of("Transfer-Encoding", "gzip", "Transfer-Encoding", "chunked"), most, 0, false, api.ErrForm)
		for _, s := range []string{"0", "1", "", "x", "1000"} {
			mustFrame(t, of("Transfer-Encoding", "chunked", "Content-Length", s), most, 0, false, api.ErrForm)
			mustFrame(t, of("content-length", s, "Transfer-Encoding", "chunked"), most, 0, false, api.ErrForm)
			mustFrame(t, of("content-length", s, "Transfer-Encoding", "chunked", "Content-Length", s), most, 0, false, api.ErrForm)
		}
	}
}

func TestFrameOfALength(t *testing.T) {
	for _, s := range []string{"0", "1", "9", "10", "99", "100"} {
		n := 0
		fmt.Sscan(s, &n)
		mustFrame(t, of("Content-Length", s), 100, n, false, api.OK)
		mustFrame(t, of("A", "7", "CONTENT-length", s), n, n, false, api.OK)
		mustFrame(t, of("Content-Length", s), n-1, 0, false, api.ErrLong)
		mustFrame(t, of("Content-Length", s), math.MinInt, 0, false, api.ErrLong)
		mustFrame(t, of("Content-Length", s, "content-length", s), 100, 0, false, api.ErrForm)
		mustFrame(t, of("Content-Length", s, "content-length", ""), 100, 0, false, api.ErrForm)
	}
	mustFrame(t, of("Content-Length", "101"), 100, 0, false, api.ErrLong)
	mustFrame(t, of("Content-Length", "4611686018427387904"), math.MaxInt, 1<<62, false, api.OK)
	mustFrame(t, of("Content-Length", "4611686018427387903"), 1<<62-1, 1<<62-1, false, api.OK)
	for _, s := range []string{"4611686018427387905", "9223372036854775807", "9223372036854775808", "18446744073709551615", "18446744073709551616", "18446744073709551617", "1" + strings.Repeat("0", 5000)} {
		mustFrame(t, of("Content-Length", s), math.MaxInt, 0, false, api.ErrLong)
		mustFrame(t, of("Content-Length", s), 100, 0, false, api.ErrLong)
	}
	for _, s := range []string{"", " ", "00", "01", "007", "+1", "-1", "-0", " 1", "1 ", "1, 1", "1,1", "1.0", "1e1", "0x1", "a", "1a", "\u0661", "\xb2", "1\x00", "1\r\n", "0" + strings.Repeat("9", 5000)} {
		for _, most := range []int{math.MinInt, -1, 0, 100, math.MaxInt} {
			mustFrame(t, of("Content-Length", s), most, 0, false, api.ErrForm)
		}
	}
	// Two of them are told ahead of one that is above the most.
	mustFrame(t, of("Content-Length", "1000", "Content-Length", "1000"), 100, 0, false, api.ErrForm)
}

// minors are last digits of versions, and numbers that are none.
func minors() []int { return []int{math.MinInt, -1, 0, 1, 2, 9, math.MaxInt} }

func TestFrameOfManyLists(t *testing.T) {
	names := []string{"Transfer-Encoding", "transfer-encoding", "Content-Length", "content-LENGTH", "A"}
	values := []string{"chunked", "Chunked", "gzip", "0", "7", "8", "07", ""}
	texts(3, []string{"0", "1", "2", "3", "4"}, func(s string) {
		texts(len(s), []string{"0", "1", "2", "3", "4", "5", "6", "7"}, func(v string) {
			if len(v) != len(s) {
				return
			}
			var list []api.Field
			for i := range len(s) {
				list = append(list, api.Field{Name: names[s[i]-'0'], Value: values[v[i]-'0']})
			}
			n, chunks, e := frame(list, 7)
			mustFrame(t, list, 7, n, chunks, e)
		})
	})
}

func TestCloses(t *testing.T) {
	for _, minor := range minors() {
		old := minor < 1
		for _, list := range [][]api.Field{nil, of("A", "close"), of("Connection", ""), of("Connection", "x"), of("Connection", "closed, clos, close x"), of("Connection", `"close"`), of("Connection", `"a, close`), of("Connection", "clo\u017fe"),
			of("Connection", "\u212aeep-alive"), of("Connection", `"keep-alive"`), of("Connection", "keepalive"), of("Connection2", "close", "Proxy-Connection", "close"), of("Keep-Alive", "x"), of("keep-alive", "keep-alive"), of("Connection", "keep-alive;close")} {
			mustClose(t, list, minor, old)
		}
		for _, s := range []string{"close", "Close", "CLOSE", "x, close", "close,x", ",\tclose ,", "keep-alive, close", "close, keep-alive", `"a,b" , cLose`} {
			mustClose(t, of("Connection", s), minor, true)
			mustClose(t, of("connection", "x", "A", "b", "CONNECTION", s), minor, true)
			mustClose(t, of("connection", s, "CONNECTION", "keep-alive"), minor, true)
		}
		for _, s := range []string{"keep-alive", "Keep-Alive", "KEEP-ALIVE", "x, keep-alive", "keep-alive,x", ",\tkeep-alive ,"} {
			mustClose(t, of("Connection", s), minor, false)
			mustClose(t, of("connection", "x", "A", "close", "CONNECTION", s), minor, false)
		}
	}
}

func TestClosesOfAllShortValues(t *testing.T) {
	texts(4, []string{"close", "Keep-Alive", ",", " ", "\"", "x"}, func(s string) {
		for _, minor := range []int{-1, 0, 1} {
			list := of("Connection", s)
			mustClose(t, list, minor, closes(list, minor))
		}
	})
}

// P10.5

// mustStay holds that what is told of a beginning stays told, unless that is
// that more is needed.
func mustStay(t *testing.T, s string) {
	t.Helper()
	told := false
	var start string
	var list []api.Field
	var size int
	var err api.Errno
	for n := range len(s) + 1 {
		st, l, m, e := field.Split(s[:n])
		if told && (st != start || !slices.Equal(l, list) || m != size || e != err) {
			t.Errorf("of %d bytes of %.80q: %q, %q, %d, error %d, then of more another answer", n, s, st, l, m, e)
			return
		}
		start, list, size, err = st, l, m, e
		told = e != api.ErrShort
		if e == api.OK && m != n && !strings.HasPrefix(s[:n], s[:m]) {
			t.Errorf("%.80q: a head of %d bytes", s, m)
		}
	}
}

func TestWhatIsToldStays(t *testing.T) {
	texts(5, []string{"\r\n", "\r", "\n", "a", ":", "a: b\r\n"}, func(s string) { mustStay(t, s) })
	many := strings.Repeat("X: 1\r\n", 33)
	for _, s := range []string{
		"GET / HTTP/1.1\r\nHost: a\r\nA: b\r\n\r\nGET / HTTP/1.1\r\n\r\n", headOf(4096) + "more", headOf(4097) + "more", headOf(4095) + "more", headOf(5000), strings.Repeat("a", 5000),
		"a\r\n" + many + "\r\n", "a\r\n" + many[6:] + "\r\n\r\n", strings.Repeat("a", 1025) + "\r\n\r\n", strings.Repeat("a", 1024) + "\r\n\r\n\r\n", strings.Repeat("a", 4094) + "\r\n\r\n", "a\r\nX: " + strings.Repeat("v", 4086) + "\r\n\n\n", "a\r\nX: " + strings.Repeat("v", 4087) + "\r\n\n\n",
	} {
		mustStay(t, s)
	}
}

func TestAHeadIsAsLongAsItIsTold(t *testing.T) {
	r := rand.New(rand.NewSource(11))
	for range 5000 {
		s := someHead(r)
		start, list, n, e := field.Split(s)
		if e != api.OK {
			continue
		}
		mustSplit(t, s[:n], start, list, n)
		for _, cut := range []int{1, 2, 3, 4, n / 2} {
			mustNotSplit(t, s[:n-cut], api.ErrShort)
		}
		// What is written of it is read as it was (P8).
		again := start + "\r\n"
		for _, f := range list {
			if !field.Good(f) {
				t.Errorf("%q was read, and can't be written", f)
			}
			again += field.Print(f) + "\r\n"
		}
		if again += "\r\n"; len(again) <= 4096 {
			mustSplit(t, again, start, list, len(again))
		}
	}
}

// The rules that hold everywhere.

// shares: whether two texts have memory in common.
func shares(a, b string) bool {
	if a == "" || b == "" {
		return false
	}
	startA, startB := uintptr(unsafe.Pointer(unsafe.StringData(a))), uintptr(unsafe.Pointer(unsafe.StringData(b)))
	return startA < startB+uintptr(len(b)) && startB < startA+uintptr(len(a))
}

func mustNotShare(t *testing.T, what, s string, answers ...string) {
	t.Helper()
	for _, a := range answers {
		if shares(s, a) {
			t.Errorf("%s: %q shares memory with what was handed in", what, a)
		}
	}
}

func TestAnswersAreNewMemory(t *testing.T) {
	line := strings.Clone("Name: the value ")
	f, _ := field.Parse(line)
	mustNotShare(t, "Parse", line, f.Name, f.Value)
	head := strings.Clone("start\r\nName: value\r\n\r\n")
	start, list, _, _ := field.Split(head)
	mustNotShare(t, "Split", head, start, list[0].Name, list[0].Value)
	value := strings.Clone("one, two, \"three\"")
	first, _ := field.Get(of("A", value), "A")
	mustNotShare(t, "Get", value, first)
	mustNotShare(t, "Elements", value, field.Elements(of("A", value), "A")...)
	single := strings.Clone("one")
	mustNotShare(t, "Elements", single, field.Elements(of("A", single), "A")...)
	text := strings.Clone("head; abc=def; ghi=\"jkl\"")
	h, ps, _ := field.Params(text)
	mustNotShare(t, "Params", text, h, ps[0].Name, ps[0].Value, ps[1].Name, ps[1].Value)
	alone := strings.Clone("head")
	h, _, _ = field.Params(alone)
	mustNotShare(t, "Params", alone, h)
}

// What is handed in stays as it is, its spare room too; what is done to an
// answer doesn't come back.
func TestListsThatAreHandedInStay(t *testing.T) {
	all := of("Connection", "a, b", "connection", "close", "Content-Length", "5", "spare", "room", "more", "room")
	before := slices.Clone(all)
	list := all[:3]
	for range 3 {
		field.Get(list, "connection")
		field.Frame(list, 100)
		field.Closes(list, 1)
		got := field.Elements(list, "connection")
		if !slices.Equal(got, []string{"a", "b", "close"}) {
			t.Fatalf("%q", got)
		}
		clear(got[:cap(got)])
		if !slices.Equal(all, before) {
			t.Fatalf("%q", all)
		}
		_, ps, _ := field.Params("x;a=b;c=d")
		if !slices.Equal(ps, of("a", "b", "c", "d")) {
			t.Fatalf("%q", ps)
		}
		clear(ps[:cap(ps)])
		_, fs, _, _ := field.Split("s\r\nA: b\r\nC: d\r\n\r\n")
		if !slices.Equal(fs, of("A", "b", "C", "d")) {
			t.Fatalf("%q", fs)
		}
		clear(fs[:cap(fs)])
	}
}

// The same is answered each time, whatever was asked between.
func TestNothingIsKept(t *testing.T) {
	ask := func() []any {
		var all []any
		for _, s := range []string{"", "a\r\nA: b\r\n\r\n", "a\r\n", "a\n", strings.Repeat("a", 5000), `x;a="b;c"`, "x;a", `"open`, "A: b"} {
			list := of("A", s, "Connection", s, "Content-Length", s)
			start, fields, n, e := field.Split(s)
			head, ps, pe := field.Params(s)
			f, fe := field.Parse(s)
			length, chunks, le := field.Frame(list, 9)
			all = append(all, start, fields, n, e, head, ps, pe, f, fe, length, chunks, le, field.Elements(list, "a"), field.Closes(list, 1), field.IsToken(s), field.Good(f))
		}
		return all
	}
	first := ask()
	for range 3 {
		if !reflect.DeepEqual(ask(), first) {
			t.Fatal("another answer")
		}
	}
}

// Texts of many bytes: what takes steps for each pair of its
// bytes would never end.
func TestLongTexts(t *testing.T) {
	const n = 1 << 18
	for _, s := range []string{"a", ",", "a,", "\"", "\\", "\"\\", "\",", ";", "=", "a=b;", "\r", "\n", "\r\n", ":", " ", "\x00"} {
		long := strings.Repeat(s, n/len(s))
		list := of("A", long, long, "x", "Content-Length", long, "Connection", long, "Transfer-Encoding", long)
		field.IsToken(long)
		field.Parse(long)
		field.Parse("A:" + long)
		field.Good(api.Field{Name: long, Value: long})
		field.Split(long)
		field.Get(list, long)
		field.Elements(list, "A")
		field.Params(long)
		field.Params("x;a=\"" + long + "\"")
		field.Frame(list, math.MaxInt)
		field.Frame(list[:3], math.MaxInt)
		field.Closes(list, 0)
	}
	parts := field.Elements(of("A", strings.Repeat("a,", n)), "A")
	if len(parts) != n || parts[n-1] != "a" {
		t.Errorf("%d elements", len(parts))
	}
	if s, count := field.Get(slices.Repeat(of("A", "b"), n), "a"); s != "b" || count != n {
		t.Errorf("%q, %d", s, count)
	}
	mustFrame(t, slices.Repeat(of("Content-Length", "1"), n), 1, 0, false, api.ErrForm)
}

// P1, and all answers held against the second way of working them out.

func FuzzLines(f *testing.F) {
	for _, s := range []string{"", "A: b", "A : b", "A:\t\xff ", "a\r\nA: b\r\n\r\n", "a\n", headOf(4096), headOf(4097), "a\r\n" + strings.Repeat("X:\r\n", 33) + "\r\n"} {
		f.Add(s)
	}
	f.Fuzz(func(t *testing.T, s string) {
		mustToken(t, s, isToken(s))
		want, e := parse(s)
		if got, err := field.Parse(s); got != want || err != e {
			t.Errorf("Parse of %q: %q, error %d, want %q, error %d", s, got, err, want, e)
		}
		checkSplit(t, s)
		mustStay(t, s[:min(len(s), 500)])
	})
}

func FuzzLists(f *testing.F) {
	f.Add("Connection", "close", "connection", "keep-alive", "CONNECTION", 1)
	f.Add("Content-Length", "5", "A", "x;a=\"b\\\";c\";d=e", "A", 9)
	f.Add("Transfer-Encoding", "chunked", "content-length", "5", "a", 0)
	f.Add("\u212a", "\"", "k", "\\", "K", -1)
	f.Fuzz(func(t *testing.T, name1, value1, name2, value2, name string, n int) {
		list := of(name1, value1, name2, value2)
		value, count := get(list, name)
		mustGet(t, list, name, value, count)
		for _, name := range []string{name, name1, "connection"} {
			if got, want := field.Elements(list, name), elements(list, name); !slices.Equal(got, want) {
				t.Errorf("Elements of %q of %q: %q, want %q", name, list, got, want)
			}
		}
		for _, s := range []string{value1, "x;" + value1, "x;a=" + value2} {
			if head, ps, e := params(s); e != api.OK {
				mustNotParams(t, s)
			} else {
				mustParams(t, s, head, ps...)
			}
		}
		length, chunks, e := frame(list, n)
		mustFrame(t, list, n, length, chunks, e)
		list = append(list, of("Content-Length", value1)...)
		length, chunks, e = frame(list, n)
		mustFrame(t, list, n, length, chunks, e)
		list = append(list, of("Connection", value1+","+value2)...)
		mustClose(t, list, n, closes(list, n))
	})
}
