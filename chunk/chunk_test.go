package chunk_test

import (
	"fmt"
	"math"
	"math/rand"
	"strings"
	"testing"
	"unsafe"

	"manciple/api"
	"manciple/chunk"
)

// texts calls do with all texts of at most most of the pieces.
func texts(most int, pieces []string, do func(s string)) {
	var more func(s string, left int)
	more = func(s string, left int) {
		do(s)
		if left == 0 {
			return
		}
		for _, piece := range pieces {
			more(s+piece, left-1)
		}
	}
	more("", most)
}

func oneByte(b int) string { return string([]byte{byte(b)}) }

// mustCome holds that all at once, and byte by byte, a text comes to this.
func mustCome(t *testing.T, s string, most int, want outcome) {
	t.Helper()
	whole := chunk.New(most)
	mustBe(t, whole, fmt.Sprintf("%.300q, most %d", s, most), whole.Add(s), want)
	single := chunk.New(most)
	var e api.Errno
	for i := range len(s) {
		e = single.Add(s[i : i+1])
	}
	mustBe(t, single, fmt.Sprintf("%.300q byte by byte, most %d", s, most), e, want)
}

// mustBe holds what there is of a body of which nothing was taken. It is asked
// twice, and taken then.
func mustBe(t *testing.T, c *chunk.Chunk, what string, e api.Errno, want outcome) {
	t.Helper()
	for range 2 {
		if e != want.wrong {
			t.Errorf("%s: error %d, want %d", what, e, want.wrong)
		}
		if c.Done() != want.done || c.Rest() != want.rest || c.Size() != len(want.data) {
			t.Errorf("%s: %v, %.80q, size %d, want %v, %.80q, size %d", what, c.Done(), c.Rest(), c.Size(), want.done, want.rest, len(want.data))
		}
		e = c.Add("")
	}
	if s := c.Take(); s != want.data {
		t.Errorf("%s: data %.80q, want %.80q", what, s, want.data)
	}
	if s := c.Take(); s != "" {
		t.Errorf("%s: data %.80q once more", what, s)
	}
	if c.Size() != len(want.data) || c.Rest() != want.rest {
		t.Errorf("%s: size %d, %.80q behind a Take", what, c.Size(), c.Rest())
	}
}

func mustEnd(t *testing.T, s string, most int, data, rest string) {
	t.Helper()
	mustCome(t, s, most, outcome{data: data, done: true, rest: rest})
}

func mustGoOn(t *testing.T, s string, most int, data string) {
	t.Helper()
	mustCome(t, s, most, outcome{data: data})
}

// mustBeWrong holds that a text is wrong just at its last byte, and stays it
// whatever comes behind.
func mustBeWrong(t *testing.T, s string, most int, data string, wrong api.Errno) {
	t.Helper()
	mustGoOn(t, s[:len(s)-1], most, data)
	for _, more := range []string{"", "0\r\n\r\n", "\r\n0\r\n\r\n", "\n", "abc"} {
		mustCome(t, s+more, most, outcome{data: data, wrong: wrong})
	}
	c := chunk.New(most)
	for range 3 {
		if e := c.Add(s); e != wrong {
			t.Errorf("%.300q, most %d: error %d, want %d", s, most, e, wrong)
		}
		if e := c.Add("0\r\n\r\n"); e != wrong {
			t.Errorf("%.300q, most %d: error %d behind error %d", s, most, e, wrong)
		}
	}
}

// The chapter's examples.

func TestExamples(t *testing.T) {
	mustEnd(t, "3\r\nabc\r\n0\r\n\r\nrest", 3, "abc", "rest")
	mustBeWrong(t, "5;x=y\r\n", 4, "", api.ErrLong)
}

// P11.1

func TestNothingHasCome(t *testing.T) {
	for _, most := range []int{math.MinInt, -1, 0, 1, 256, math.MaxInt} {
		mustGoOn(t, "", most, "")
		mustEnd(t, "0\r\n\r\n", most, "", "")
	}
}

func TestDigitsOfALine(t *testing.T) {
	for b := range 256 {
		s := oneByte(b)
		switch {
		case strings.Contains("123456789abcdefABCDEF", s):
			mustGoOn(t, s+"\r\n", 15, "")
			mustGoOn(t, "0"+s+"\r\n", 15, "")
			mustGoOn(t, s+"0\r\n", 240, "")
		case s == "0":
			mustEnd(t, s+"\r\n\r\n", 0, "", "")
		case s == "\n":
			mustBeWrong(t, s, 9, "", api.ErrForm)
			mustBeWrong(t, "1"+s, 9, "", api.ErrForm)
		case strings.Contains(" \t;", s):
			mustBeWrong(t, s+"\r\n", 9, "", api.ErrForm)
			mustBeWrong(t, s+"1\r\n", 9, "", api.ErrForm)
			mustGoOn(t, "1"+s+"\r\n", 9, "")
			mustGoOn(t, "1"+s+"2\r\n", 1, "")
			mustEnd(t, "0"+s+"2\r\n\r\n", 0, "", "")
		default:
			mustBeWrong(t, s+"\r\n", 9, "", api.ErrForm)
			mustBeWrong(t, s+"1\r\n", 9, "", api.ErrForm)
			mustBeWrong(t, "1"+s+"\r\n", 9, "", api.ErrForm)
			mustBeWrong(t, "1"+s+";\r\n", 9, "", api.ErrForm)
		}
	}
	mustBeWrong(t, "\r\n", 9, "", api.ErrForm)
	for _, s := range []string{"0x1", "-1", "+1", "1_0", "1.", "\u0661", "\uff11"} {
		mustBeWrong(t, s+"\r\n", 99, "", api.ErrForm)
	}
}

func TestCountOfDigits(t *testing.T) {
	for n := 1; n <= 16; n++ {
		zeros := strings.Repeat("0", n)
		mustEnd(t, zeros+"\r\n\r\n", 5, "", "")
		mustGoOn(t, zeros[1:]+"5\r\nabc", 5, "abc")
		mustBeWrong(t, zeros[1:]+"6\r\n", 5, "", api.ErrLong)
	}
	for _, n := range []int{17, 18, 100, 253} {
		mustBeWrong(t, strings.Repeat("0", n)+"\r\n", 5, "", api.ErrForm)
		mustBeWrong(t, strings.Repeat("0", n-1)+"1\r\n", 5, "", api.ErrForm)
		mustBeWrong(t, strings.Repeat("f", n)+"\r\n", 5, "", api.ErrForm)
	}
	mustBeWrong(t, strings.Repeat("0", 17)+";x\r\n", 5, "", api.ErrForm)
	mustGoOn(t, strings.Repeat("0", 15)+"1;x\r\n", 5, "")
}

func TestWhatStandsBehindDigits(t *testing.T) {
	for b := range 256 {
		s := oneByte(b)
		isText := s == "\t" || b >= ' ' && b != 0x7f
		for _, first := range []string{" ", "\t", ";", "; ", " ;x", "\t\t"} {
			for _, last := range []string{"", "x", ";a=\"b\""} {
				line := "3" + first + s + last + "\r\n"
				switch {
				case isText:
					mustEnd(t, line+"abc\r\n0"+first+s+last+"\r\n\r\n", 3, "abc", "")
				case s == "\n":
					mustBeWrong(t, "3"+first+s, 3, "", api.ErrForm)
				default:
					mustBeWrong(t, line, 3, "", api.ErrForm)
				}
			}
		}
	}
}

func TestEndsOfLines(t *testing.T) {
	for _, s := range []string{"\n", "\r\r\n", " \n", "\r \n", ";\r\r\n", ";\n", "\x00\r\n"} {
		mustBeWrong(t, "3"+s, 9, "", api.ErrForm)
		mustBeWrong(t, "0"+s, 9, "", api.ErrForm)
		mustBeWrong(t, "2\r\nab\r\n3"+s, 9, "ab", api.ErrForm)
		mustBeWrong(t, "0\r\nA: b"+s, 9, "", api.ErrForm)
	}
	// Behind the last chunk an end of another form makes no empty line.
	for _, s := range []string{"\n", "\r\r\n", " \r\n", "\t\r\n", "x\r\n", "\x00\n"} {
		mustBeWrong(t, "0\r\n"+s, 9, "", api.ErrForm)
		mustBeWrong(t, "0\r\nA: b\r\n"+s, 9, "", api.ErrForm)
	}
	// Till a line ends nothing is wrong.
	for _, s := range []string{"x", "\r", "\r\r", "3\rx", "3;\x00", "fffff", "0\r\nx", "0\r\n\r", "0\r\n\rx", "0\r\n: \x00"} {
		mustGoOn(t, s, 9, "")
	}
}

func TestBytesOfALine(t *testing.T) {
	for _, ahead := range []string{"", "2\r\nab\r\n", "0\r\n", "0\r\nA: b\r\n"} {
		data := ""
		if ahead == "2\r\nab\r\n" {
			data = "ab"
		}
		begin := "1;"
		if strings.HasPrefix(ahead, "0") {
			begin = "A:"
		}
		for _, n := range []int{250, 253, 254} {
			mustGoOn(t, ahead+begin+strings.Repeat("x", n-2)+"\r\n", 9, data)
		}
		mustGoOn(t, ahead+begin+strings.Repeat("x", 253), 9, data)
		for _, tail := range []string{"x", "\r", "\x00"} {
			mustBeWrong(t, ahead+begin+strings.Repeat("x", 253)+tail, 9, data, api.ErrForm)
		}
		// The 256th byte is 0A, and the line ends with it.
		mustBeWrong(t, ahead+begin+strings.Repeat("x", 253)+"\n", 9, data, api.ErrForm)
		mustGoOn(t, ahead+strings.Repeat("z", 255), 9, data)
		mustBeWrong(t, ahead+strings.Repeat("z", 256), 9, data, api.ErrForm)
		mustGoOn(t, ahead+strings.Repeat("\r", 255), 9, data)
		mustBeWrong(t, ahead+strings.Repeat("\r", 256), 9, data, api.ErrForm)
	}
	// What is too long has no number, and is no field more.
	mustBeWrong(t, "ffff;"+strings.Repeat("x", 251), 9, "", api.ErrForm)
	mustBeWrong(t, "0\r\n"+strings.Repeat("A:\r\n", 16)+"A:"+strings.Repeat("x", 254), 9, "", api.ErrForm)
	// Each line has its own bytes, and data has as many as it may.
	long := "A:" + strings.Repeat("x", 252) + "\r\n"
	body := strings.Repeat("z", 1000)
	mustEnd(t, "3e8;"+strings.Repeat("y", 250)+"\r\n"+body+"\r\n0;"+strings.Repeat("y", 252)+"\r\n"+strings.Repeat(long, 16)+"\r\n"+body, 1000, body, body)
}

func TestEndsOfData(t *testing.T) {
	for b := range 256 {
		s := oneByte(b)
		if s != "\r" {
			mustBeWrong(t, "2\r\nab"+s, 9, "ab", api.ErrForm)
		}
		if s != "\n" {
			mustBeWrong(t, "2\r\nab\r"+s, 9, "ab", api.ErrForm)
			mustBeWrong(t, "1\r\nz\r\n2\r\nab\r"+s, 9, "zab", api.ErrForm)
		}
	}
	mustGoOn(t, "2\r\nab\r", 9, "ab")
	mustGoOn(t, "2\r\nab\r\n", 9, "ab")
	// Data may have any bytes, those of ends and of last chunks too.
	for _, data := range []string{"\r\n", "\n\r\n0\r\n\r\n", "0\r\n\r\n", "\x00\xff\r", "\r", "\n"} {
		mustEnd(t, fmt.Sprintf("%x\r\n%s\r\n0\r\n\r\nmore", len(data), data), 99, data, "more")
	}
}

func TestNumbersAtTheMost(t *testing.T) {
	for _, most := range []int{0, 1, 9, 15, 16, 255, 1 << 20, 1<<62 - 1, 1 << 62} {
		if most > 0 {
			mustGoOn(t, fmt.Sprintf("%x\r\nq", most), most, "q")
			mustGoOn(t, fmt.Sprintf("%016X;\r\nq", most), most, "q")
			mustBeWrong(t, fmt.Sprintf("1\r\nq\r\n%x\r\n", most), most, "q", api.ErrLong)
		}
		mustBeWrong(t, fmt.Sprintf("%x\r\n", most+1), most, "", api.ErrLong)
		mustBeWrong(t, "8000000000000000\r\n", most, "", api.ErrLong)
		mustBeWrong(t, "ffffffffffffffff\r\n", most, "", api.ErrLong)
	}
	for _, most := range []int{1<<62 + 1, math.MaxInt - 1, math.MaxInt} {
		mustGoOn(t, "4000000000000000\r\nq", most, "q")
		mustBeWrong(t, "4000000000000001\r\n", most, "", api.ErrLong)
		mustBeWrong(t, "7fffffffffffffff\r\n", most, "", api.ErrLong)
		mustBeWrong(t, "8000000000000000\r\n", most, "", api.ErrLong)
		mustBeWrong(t, "8000000000000001\r\n", most, "", api.ErrLong)
		mustBeWrong(t, "ffffffffffffffff\r\n", most, "", api.ErrLong)
	}
	for _, most := range []int{0, -1, -256, math.MinInt} {
		mustBeWrong(t, "1\r\n", most, "", api.ErrLong)
		mustBeWrong(t, "ffffffffffffffff;x\r\n", most, "", api.ErrLong)
		mustEnd(t, "00;x\r\nA: b\r\n\r\nmore", most, "", "more")
	}
}

func TestWhatIsLeftOfTheMost(t *testing.T) {
	s := "3\r\nabc\r\n2\r\nde\r\n"
	mustEnd(t, s+"0\r\n\r\n", 5, "abcde", "")
	mustBeWrong(t, s+"1\r\n", 5, "abcde", api.ErrLong)
	mustBeWrong(t, "3\r\nabc\r\n2\r\n", 4, "abc", api.ErrLong)
	mustGoOn(t, s+"1\r\n", 6, "abcde")
	// What was taken counts, too.
	c := chunk.New(4)
	for _, part := range []string{"3\r\na", "bc\r\n"} {
		if e := c.Add(part); e != api.OK || c.Take() == "" {
			t.Fatal(e)
		}
	}
	if e := c.Add("2\r\n"); e != api.ErrLong || c.Size() != 3 {
		t.Errorf("error %d, size %d", e, c.Size())
	}
	// No line is told by its number alone.
	mustBeWrong(t, "9;\x00\r\n", 5, "", api.ErrForm)
	mustBeWrong(t, "9x\r\n", 5, "", api.ErrForm)
	mustBeWrong(t, "9\n", 5, "", api.ErrForm)
	mustBeWrong(t, "ffffffffffffffff \x7f\r\n", 5, "", api.ErrForm)
}

func TestFieldsBehindTheLastChunk(t *testing.T) {
	mustEnd(t, "0\r\nA: b\r\nC:\r\nD:e\t\xff \r\n\r\nmore", 9, "", "more")
	mustEnd(t, "2\r\nab\r\n0;x\r\n!#$: \"\r\n\r\n0\r\n\r\n", 9, "ab", "0\r\n\r\n")
	for _, s := range []string{"A", "A b", ":", ": b", "A : b", " A: b", "\tb", "A(: b", "A: \x00", "A: \x7f", "A: b\rc", "caf\u00e9: b", "2", "0"} {
		mustBeWrong(t, "0\r\n"+s+"\r\n", 9, "", api.ErrForm)
		mustBeWrong(t, "1\r\nz\r\n0\r\nA: b\r\n"+s+"\r\n", 9, "z", api.ErrForm)
	}
}

func TestCountOfFields(t *testing.T) {
	for _, f := range []string{"A:\r\n", "A: b\r\n", "Name: " + strings.Repeat("v", 248) + "\r\n"} {
		for _, n := range []int{0, 1, 15, 16} {
			mustGoOn(t, "0\r\n"+strings.Repeat(f, n), 9, "")
			mustEnd(t, "0\r\n"+strings.Repeat(f, n)+"\r\n"+f, 9, "", f)
			mustEnd(t, "1\r\nq\r\n0\r\n"+strings.Repeat(f, n)+"\r\n", 9, "q", "")
		}
		mustBeWrong(t, "0\r\n"+strings.Repeat(f, 17), 9, "", api.ErrLong)
		mustBeWrong(t, "1\r\nq\r\n0\r\n"+strings.Repeat(f, 17), 9, "q", api.ErrLong)
		// What is no field is told as such.
		mustBeWrong(t, "0\r\n"+strings.Repeat(f, 16)+"x\r\n", 9, "", api.ErrForm)
		mustBeWrong(t, "0\r\n"+strings.Repeat(f, 16)+"A: b\n", 9, "", api.ErrForm)
	}
}

// P11.2

func TestTake(t *testing.T) {
	c := chunk.New(100)
	for _, step := range []struct{ add, take string }{
		{"", ""}, {"3", ""}, {"\r\n", ""}, {"a", "a"}, {"", ""}, {"bc\r", "bc"}, {"\n5;x\r\nde", "de"}, {"fgh\r\n2\r\nij\r\n1\r\nk", "fghijk"}, {"\r\n0\r\nA: b\r", ""}, {"\n\r\n9\r\nmore", ""}, {"3\r\nabc\r\n", ""},
	} {
		if e := c.Add(step.add); e != api.OK {
			t.Errorf("%q: error %d", step.add, e)
		}
		for _, want := range []string{step.take, "", ""} {
			if s := c.Take(); s != want {
				t.Errorf("%q: Take is %q, want %q", step.add, s, want)
			}
		}
	}
	if c.Size() != 11 || c.Rest() != "9\r\nmore3\r\nabc\r\n" || !c.Done() {
		t.Errorf("size %d, %q, %v", c.Size(), c.Rest(), c.Done())
	}
}

func TestWhatIsReadStaysBesideAnError(t *testing.T) {
	for _, s := range []string{"x\r\n", "2\r\nde?", "9999\r\n", "0\r\n\n", "0\r\n" + strings.Repeat("A:\r\n", 17), strings.Repeat("9", 256)} {
		c := chunk.New(100)
		c.Add("3\r\nabc\r\n")
		e := c.Add(s)
		want := "abc"
		if strings.Contains(s, "de") {
			want = "abcde"
		}
		if e != api.ErrForm && e != api.ErrLong || c.Size() != len(want) || c.Done() || c.Rest() != "" || c.Take() != want || c.Take() != "" || c.Size() != len(want) {
			t.Errorf("%.80q: error %d, size %d", s, e, c.Size())
		}
		if again := c.Add("4\r\n"); again != e || c.Take() != "" || c.Size() != len(want) {
			t.Errorf("%.80q: error %d, then %d", s, e, again)
		}
	}
}

func TestRest(t *testing.T) {
	s := "2\r\nab\r\n0\r\nA: b\r\n\r\n"
	c := chunk.New(2)
	for i := range len(s) {
		if c.Done() || c.Rest() != "" {
			t.Errorf("%q is done", s[:i])
		}
		c.Add(s[i : i+1])
	}
	rest := ""
	for _, more := range []string{"", "0", "\r\n", "x\n\x00", s, strings.Repeat("z", 300), ""} {
		rest += more
		if e := c.Add(more); e != api.OK || !c.Done() || c.Rest() != rest || c.Rest() != rest || c.Size() != 2 {
			t.Errorf("%.80q: error %d, %v, %.80q, size %d", rest, e, c.Done(), c.Rest(), c.Size())
		}
	}
	if c.Take() != "ab" || c.Rest() != rest {
		t.Errorf("%.80q", c.Rest())
	}
}

func TestNil(t *testing.T) {
	var c *chunk.Chunk
	for _, s := range []string{"", "3\r\nabc\r\n", "0\r\n\r\n", "x\r\n"} {
		if e := c.Add(s); e != api.ErrNil || c.Take() != "" || c.Done() || c.Rest() != "" || c.Size() != 0 {
			t.Errorf("%q: error %d", s, e)
		}
	}
}

// P11.3

func TestWrite(t *testing.T) {
	for _, c := range []struct {
		s    string
		by   int
		want string
	}{
		{"", 1, "0\r\n\r\n"},
		{"", math.MinInt, "0\r\n\r\n"},
		{"", math.MaxInt, "0\r\n\r\n"},
		{"a", 1, "1\r\na\r\n0\r\n\r\n"},
		{"abcd", 2, "2\r\nab\r\n2\r\ncd\r\n0\r\n\r\n"},
		{"abcde", 2, "2\r\nab\r\n2\r\ncd\r\n1\r\ne\r\n0\r\n\r\n"},
		{"abcde", 4, "4\r\nabcd\r\n1\r\ne\r\n0\r\n\r\n"},
		{"abcde", 5, "5\r\nabcde\r\n0\r\n\r\n"},
		{"abcde", 6, "5\r\nabcde\r\n0\r\n\r\n"},
		{"abcde", math.MaxInt, "5\r\nabcde\r\n0\r\n\r\n"},
		{"ab", 0, "1\r\na\r\n1\r\nb\r\n0\r\n\r\n"},
		{"ab", -1, "1\r\na\r\n1\r\nb\r\n0\r\n\r\n"},
		{"ab", math.MinInt, "1\r\na\r\n1\r\nb\r\n0\r\n\r\n"},
		{"\r\n\x00\xff", 3, "3\r\n\r\n\x00\r\n1\r\n\xff\r\n0\r\n\r\n"},
		{"0123456789", 10, "a\r\n0123456789\r\n0\r\n\r\n"},
		{"0123456789abcdef", 16, "10\r\n0123456789abcdef\r\n0\r\n\r\n"},
		{strings.Repeat("z", 175), 171, "ab\r\n" + strings.Repeat("z", 171) + "\r\n4\r\nzzzz\r\n0\r\n\r\n"},
	} {
		if s := chunk.Write(c.s, c.by); s != c.want {
			t.Errorf("Write of %.80q by %d: %.80q, want %.80q", c.s, c.by, s, c.want)
		}
	}
}

func TestWriteOfManyTexts(t *testing.T) {
	r := rand.New(rand.NewSource(3))
	for n := range 300 {
		s := someBytes(r, n)
		for _, by := range []int{-5, 0, 1, 2, 15, 16, 17, n - 1, n, n + 1, r.Intn(n + 1), math.MaxInt} {
			got := chunk.Write(s, by)
			if got != write(s, by) {
				t.Errorf("Write of %.80q by %d: %.80q", s, by, got)
			}
			mustReadAgain(t, r, s, by)
		}
	}
}

func someBytes(r *rand.Rand, n int) string {
	b := make([]byte, n)
	r.Read(b)
	return string(b)
}

// mustReadAgain holds that what was written is read as it was, with as many
// bytes as there are, and not with one less.
func mustReadAgain(t *testing.T, r *rand.Rand, s string, by int) {
	t.Helper()
	text := chunk.Write(s, by)
	mustBeAsRead(t, len(s), outcome{data: s, done: true, rest: "more"}, cutUp(r, text+"more", 40)...)
	if s != "" {
		data := s[:(len(s)-1)/max(min(by, len(s)), 1)*max(min(by, len(s)), 1)]
		mustBeAsRead(t, len(s)-1, outcome{data: data, wrong: api.ErrLong}, cutUp(r, text, 40)...)
	}
}

// P11.4

// cutUp is a text in parts of at most so many bytes.
func cutUp(r *rand.Rand, s string, most int) []string {
	var parts []string
	for s != "" {
		n := min(r.Intn(most+1), len(s))
		parts = append(parts, s[:n])
		s = s[n:]
	}
	return parts
}

// mustBeAsRead holds what parts come to at last, with a Take behind each.
func mustBeAsRead(t *testing.T, most int, want outcome, parts ...string) {
	t.Helper()
	c := chunk.New(most)
	var e api.Errno
	var data strings.Builder
	for _, part := range parts {
		e = c.Add(part)
		data.WriteString(c.Take())
	}
	got := outcome{data.String(), c.Done(), c.Rest(), e}
	if got != want || c.Size() != len(want.data) {
		t.Errorf("%.300q, most %d: %v, size %d, want %v", parts, most, got, c.Size(), want)
	}
}

// mustBeAsModel holds each beginning of parts against the second way.
func mustBeAsModel(t *testing.T, most int, parts ...string) {
	t.Helper()
	c := chunk.New(most)
	all, data := "", ""
	for i, part := range parts {
		all += part
		want := sofar(all, most)
		size := len(want.data)
		e := c.Add(part)
		if i%3 > 0 {
			data += c.Take()
		} else {
			want.data = want.data[:len(data)]
		}
		got := outcome{data, c.Done(), c.Rest(), e}
		if got != want || c.Size() != size {
			t.Errorf("%.300q, most %d: %v, size %d, want %v, size %d", all, most, got, c.Size(), want, size)
			return
		}
	}
	if data += c.Take(); data != sofar(all, most).data {
		t.Errorf("%.300q, most %d: data %.300q", all, most, data)
	}
}

// bytesOf is a text in parts of a byte each.
func bytesOf(s string) []string {
	var parts []string
	for i := range len(s) {
		parts = append(parts, s[i:i+1])
	}
	return parts
}

func TestAllShortTexts(t *testing.T) {
	check := func(most int, s string) {
		mustBeAsModel(t, most, bytesOf(s)...)
		mustBeAsModel(t, most, s)
	}
	texts(5, []string{"0", "1", "A", "\r\n", "\r", "\n", ";", "x"}, func(s string) { check(3, s) })
	texts(4, []string{"0\r\n", "\r\n", "A: b\r\n", "2\r\nab\r\n", "1\r\n", "a", "A: b", " "}, func(s string) { check(5, s) })
	texts(4, []string{"\r\n", "\r", "\n", "A:", "b", ":", " "}, func(s string) { check(9, "0\r\n"+s) })
	texts(4, []string{"a", "\r", "\n", "\r\n", "0\r\n\r\n"}, func(s string) { check(9, "2\r\n"+s) })
}

// someBody is a body in chunks, or nearly one.
func someBody(r *rand.Rand) string {
	pick := func(list ...string) string { return list[r.Intn(len(list))] }
	more := func() string {
		return pick("", "", ";x=y", " ", "\t;", ";\xff", " "+strings.Repeat("x", 240+r.Intn(16)))
	}
	end := func() string {
		if r.Intn(60) == 0 {
			return pick("\n", "\r", "\r\r\n", "", "\r ", "x\r\n")
		}
		return "\r\n"
	}
	var out strings.Builder
	for range r.Intn(5) {
		n := 1 + r.Intn(20)
		out.WriteString(fmt.Sprintf(pick("%x", "%X", "%05x", "%016X"), n) + more() + end() + someBytes(r, n) + end())
	}
	out.WriteString(pick("0", "0", "0000", "00000000000000000", "-") + more() + end())
	for range r.Intn(2) * r.Intn(20) {
		out.WriteString("Name:" + more() + end())
	}
	out.WriteString(end() + pick("", "more", "0\r\n\r\n"))
	if r.Intn(4) == 0 {
		return out.String()[:r.Intn(out.Len()+1)]
	}
	return out.String()
}

func TestManyBodiesInManyCuts(t *testing.T) {
	r := rand.New(rand.NewSource(11))
	count := map[outcome]int{}
	for range 4000 {
		s := someBody(r)
		most := r.Intn(60)
		want := sofar(s, most)
		count[outcome{done: want.done, wrong: want.wrong}]++
		mustBeAsRead(t, most, want, s)
		mustBeAsRead(t, most, want, bytesOf(s)...)
		for _, size := range []int{1, 3, 17, 300} {
			mustBeAsRead(t, most, want, cutUp(r, s, size)...)
		}
		mustBeAsModel(t, most, cutUp(r, s, 1+r.Intn(50))...)
	}
	for _, kind := range []outcome{{}, {done: true}, {wrong: api.ErrForm}, {wrong: api.ErrLong}} {
		if count[kind] < 100 {
			t.Errorf("of %v there are but %d", kind, count[kind])
		}
	}
}

func TestAllCutsInTwo(t *testing.T) {
	for _, s := range []string{
		"3\r\nabc\r\n000A;x=y\r\n0123456789\r\n0\r\nA: b\r\n\r\nrest",
		"3\r\nabc\r\nz\r\n", "3\r\nabc\r\nff\r\n", "3\r\nabc\rz", "3\r\nabc\r\n3", "0\r\n" + strings.Repeat("A:\r\n", 17), "1;" + strings.Repeat("x", 260), "2\r\nab\r\n1;" + strings.Repeat("x", 252) + "\r\nc\r\n0\r\n\r\n",
	} {
		want := sofar(s, 20)
		for at := range len(s) + 1 {
			mustBeAsRead(t, 20, want, s[:at], s[at:])
			mustBeAsModel(t, 20, s[:at], s[at:])
		}
	}
}

// The rules that hold everywhere.

// shares: whether two texts have memory in common.
func shares(a, b string) bool {
	if a == "" || b == "" {
		return false
	}
	startA, startB := uintptr(unsafe.Pointer(unsafe.StringData(a))), uintptr(unsafe.Pointer(unsafe.StringData(b)))
	return startA < startB+uintptr(len(b)) && startB < startA+uintptr(len(a))
}

func TestAnswersAreNewMemory(t *testing.T) {
	s := strings.Clone("3\r\nabc\r\n0\r\n\r\nrest")
	c := chunk.New(9)
	c.Add(s)
	data, rest, again := c.Take(), c.Rest(), c.Rest()
	for _, pair := range [][2]string{{s, data}, {s, rest}, {data, rest}, {rest, again}} {
		if shares(pair[0], pair[1]) {
			t.Errorf("%q and %q share memory", pair[0], pair[1])
		}
	}
	text := strings.Clone("abc")
	if shares(text, chunk.Write(text, 3)) {
		t.Error("Write's answer shares memory with what was handed in")
	}
}

// What is answered stays as it is, whatever is done then, and what is handed
// in may become something else.
func TestNothingThatIsHandedInIsKept(t *testing.T) {
	room := make([]byte, 0, 400)
	c := chunk.New(1000)
	add := func(s string) {
		room = append(room[:0], s...)
		if e := c.Add(unsafe.String(unsafe.SliceData(room), len(room))); e != api.OK {
			t.Errorf("%q: error %d", s, e)
		}
		for i := range room {
			room[i] = '?'
		}
	}
	add("6;x")
	add("=y\r")
	add("\nabc")
	first := c.Take()
	add("def\r")
	add("\n3\r\ng")
	add("hi\r\n0\r\nA:")
	add(" b\r\n\r")
	add("\nre")
	rest := c.Rest()
	add("st")
	if second := c.Take(); first != "abc" || second != "defghi" || rest != "re" || c.Rest() != "rest" {
		t.Errorf("%q, %q, %q, %q", first, second, rest, c.Rest())
	}
}

func TestBodiesStandApart(t *testing.T) {
	one, two := chunk.New(10), chunk.New(3)
	one.Add("4\r\nab")
	two.Add("3\r\nx")
	one.Add("cd\r\nq\r\n")
	two.Add("yz\r\n0\r\n\r\nmore")
	if one.Take() != "abcd" || one.Done() || one.Add("") != api.ErrForm || two.Take() != "xyz" || !two.Done() || two.Rest() != "more" || two.Add("") != api.OK {
		t.Errorf("%d, %d, %q", one.Size(), two.Size(), two.Rest())
	}
	if three := chunk.New(3); three.Add("3\r\n") != api.OK || three.Size() != 0 || three.Take() != "" {
		t.Errorf("size %d", three.Size())
	}
}

// Many bytes: what takes steps for each pair of them would never end.
func TestLongBodies(t *testing.T) {
	const n = 1 << 20
	data := strings.Repeat("0123456789abcdef", n/16)
	for _, by := range []int{1, 7, 256, n} {
		text := chunk.Write(data, by)
		for _, cut := range []int{1, 3, 1000, len(text)} {
			c := chunk.New(n)
			for at := 0; at < len(text); at += cut {
				if e := c.Add(text[at:min(at+cut, len(text))]); e != api.OK {
					t.Fatalf("by %d, cut %d, at %d: error %d", by, cut, at, e)
				}
			}
			if !c.Done() || c.Size() != n || c.Take() != data || c.Rest() != "" {
				t.Errorf("by %d, cut %d: size %d", by, cut, c.Size())
			}
		}
	}
	c := chunk.New(0)
	c.Add("0\r\n\r\n")
	for range n {
		c.Add("x")
	}
	if c.Rest() != strings.Repeat("x", n) {
		t.Error(len(c.Rest()))
	}
	for _, s := range []string{"\r", "\n", "0", "\r\n", "0\r\n", "\x00", ";"} {
		c := chunk.New(n)
		if e := c.Add(strings.Repeat(s, n)); e != api.ErrForm {
			t.Errorf("many of %q: error %d", s, e)
		}
	}
}

// P1, and all answers held against the second way of working them out.

func FuzzAdd(f *testing.F) {
	for _, s := range []string{"3\r\nabc\r\n0\r\n\r\nrest", "5;x=y\r\n", "0\r\nA: b\r\n\r\n", "x\r\n", "1\r\nax", strings.Repeat("0", 256), "0\r\n" + strings.Repeat("A:\r\n", 17)} {
		f.Add(s, 4, int64(1))
		f.Add(s, 300, int64(2))
	}
	f.Fuzz(func(t *testing.T, s string, most int, seed int64) {
		r := rand.New(rand.NewSource(seed))
		want := sofar(s, most)
		mustCome(t, s, most, want)
		mustBeAsRead(t, most, want, cutUp(r, s, 1+r.Intn(20))...)
		if len(s) < 1000 {
			mustBeAsModel(t, most, cutUp(r, s, 1+r.Intn(20))...)
		}
	})
}

func FuzzWrite(f *testing.F) {
	f.Add("", 0, int64(1))
	f.Add("abc", 2, int64(2))
	f.Add("\r\n0\r\n\r\n", -1, int64(3))
	f.Fuzz(func(t *testing.T, s string, by int, seed int64) {
		if got := chunk.Write(s, by); got != write(s, by) {
			t.Errorf("Write of %.80q by %d: %.80q", s, by, got)
		}
		mustReadAgain(t, rand.New(rand.NewSource(seed)), s, by)
	})
}
