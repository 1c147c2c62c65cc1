package hexa_test

import (
	"encoding/hex"
	"math"
	"strconv"
	"strings"
	"testing"

	"manciple/api"
	"manciple/hexa"
)

func allBytes() string {
	b := make([]byte, 256)
	for i := range b {
		b[i] = byte(i)
	}
	return string(b)
}

// P1.1

func TestHexOfOrdinaryBytes(t *testing.T) {
	for s, want := range map[string]string{
		"":                     "",
		"\x0a\xff":             "0aff",
		"\x00":                 "00",
		"\x00\x00":             "0000",
		"a":                    "61",
		"manciple":             "6d616e6369706c65",
		"\xf0\x0f":             "f00f",
		"\u00e9":               "c3a9",
		"\xab\xcd\xef\x01\x23": "abcdef0123",
	} {
		if got := hexa.Hex(s); got != want {
			t.Errorf("Hex(%q) = %q, want %q", s, got, want)
		}
		if got, e := hexa.Unhex(want); got != s || e != api.OK {
			t.Errorf("Unhex(%q) = %q, %v, want %q", want, got, e, s)
		}
	}
}

func TestHexOfAllBytes(t *testing.T) {
	s := allBytes()
	want := hex.EncodeToString([]byte(s))
	if got := hexa.Hex(s); got != want {
		t.Errorf("Hex of all bytes = %q", got)
	}
	if got, e := hexa.Unhex(want); got != s || e != api.OK {
		t.Errorf("Unhex of all bytes = %q, %v", got, e)
	}
	for i := range s {
		one := s[i : i+1]
		if got, e := hexa.Unhex(hexa.Hex(one)); got != one || e != api.OK {
			t.Errorf("byte %d: %q, %v", i, got, e)
		}
	}
}

func TestHexOfManyBytes(t *testing.T) {
	s := strings.Repeat(allBytes(), 1<<12)
	digits := hexa.Hex(s)
	if len(digits) != 2*len(s) {
		t.Fatal(len(digits))
	}
	if got, e := hexa.Unhex(digits); got != s || e != api.OK {
		t.Error(len(got), e)
	}
	if got, e := hexa.Unhex(digits + "0"); got != "" || e != api.ErrForm {
		t.Error(len(got), e)
	}
	if got, e := hexa.Unhex(digits + "0G"); got != "" || e != api.ErrForm {
		t.Error(len(got), e)
	}
}

func TestUnhexOfNoForm(t *testing.T) {
	for _, s := range []string{
		"0", "abc", "00000", "A0", "0A", "FF", "aF", "Fa", "0aFF00", "00aB",
		"0g", "g0", "zz", "0x", "0x00", " 1", "1 ", "1 2", "-1", "+1",
		"00\n0", "00\n", "0\x00", "\x00\x00", "\xff\xff", "\u00e9", "0\u0660", "００",
	} {
		if got, e := hexa.Unhex(s); got != "" || e != api.ErrForm {
			t.Errorf("Unhex(%q) = %q, %v", s, got, e)
		}
	}
}

func TestUnhexOfAllPairs(t *testing.T) {
	const digits = "0123456789abcdef"
	for a := range 256 {
		for b := range 256 {
			s := string([]byte{byte(a), byte(b)})
			high, low := strings.IndexByte(digits, byte(a)), strings.IndexByte(digits, byte(b))
			want, wantErr := "", api.ErrForm
			if high >= 0 && low >= 0 {
				want, wantErr = string([]byte{byte(16*high + low)}), api.OK
			}
			if got, e := hexa.Unhex(s); got != want || e != wantErr {
				t.Fatalf("Unhex(%q) = %q, %v", s, got, e)
			}
		}
	}
}

// P1.2

func numbers() []int {
	list := []int{0, 1, 9, 10, 11, 15, 16, 99, 100, 101, 255, 256, 4095, 4096, math.MaxInt, math.MaxInt - 1}
	for power := 1; power <= math.MaxInt/10; power *= 10 {
		list = append(list, 10*power-1, 10*power, 10*power+1)
	}
	for shift := range 63 {
		list = append(list, 1<<shift-1, 1<<shift, 1<<shift+1)
	}
	return list
}

func TestDec(t *testing.T) {
	for n, want := range map[int]string{
		0: "0", 7: "7", 10: "10", 1000: "1000", 1234567890: "1234567890",
		-1: "-1", -9: "-9", -10: "-10", -1200: "-1200",
		math.MaxInt: "9223372036854775807", math.MinInt: "-9223372036854775808", math.MinInt + 1: "-9223372036854775807",
	} {
		if got := hexa.Dec(n); got != want {
			t.Errorf("Dec(%d) = %q", n, got)
		}
	}
	for _, n := range numbers() {
		if got := hexa.Dec(n); got != strconv.Itoa(n) {
			t.Errorf("Dec(%d) = %q", n, got)
		}
		if got := hexa.Dec(-n); got != strconv.Itoa(-n) {
			t.Errorf("Dec(%d) = %q", -n, got)
		}
	}
}

type reading struct {
	s    string
	most int
	n    int
	e    api.Errno
}

func checkReadings(t *testing.T, name string, read func(string, int) (int, api.Errno), list []reading) {
	t.Helper()
	for _, c := range list {
		if n, e := read(c.s, c.most); n != c.n || e != c.e {
			t.Errorf("%s(%.40q, %d) = %d, %v, want %d, %v", name, c.s, c.most, n, e, c.n, c.e)
		}
	}
}

func TestUndec(t *testing.T) {
	checkReadings(t, "Undec", hexa.Undec, []reading{
		{"0", 0, 0, api.OK}, {"0", 9, 0, api.OK}, {"7", 9, 7, api.OK}, {"17", 20, 17, api.OK}, {"100", 100, 100, api.OK},
		{"9", 9, 9, api.OK}, {"10", 10, 10, api.OK}, {"1234567890", math.MaxInt, 1234567890, api.OK},
		{"4611686018427387903", math.MaxInt, 1<<62 - 1, api.OK},
		{"4611686018427387904", math.MaxInt, 1 << 62, api.OK},
		{"4611686018427387904", 1 << 62, 1 << 62, api.OK},
	})
}

func TestUndecOfNoForm(t *testing.T) {
	long := strings.Repeat("9", 10000)
	var list []reading
	for _, s := range []string{
		"", "00", "01", "007", "000000000000000000000000", "0" + long,
		"+1", "-1", "-0", "+0", " 1", "1 ", "1 2", "\t1", "1\n", " ", "-", "+", "1.0", "1e3", "0x1", "1_000", "a", "f", "A",
		"1\x00", "\xff", "\u0661", "１", "/", ":", "1/", "1:", long + "x", "x" + long, "99999999999999999999 ",
	} {
		for _, most := range []int{9, 0, -1, 1 << 62, math.MaxInt, math.MinInt} {
			list = append(list, reading{s, most, 0, api.ErrForm})
		}
	}
	checkReadings(t, "Undec", hexa.Undec, list)
}

func TestUndecOutOfRange(t *testing.T) {
	checkReadings(t, "Undec", hexa.Undec, []reading{
		{"10", 9, 0, api.ErrRange}, {"1", 0, 0, api.ErrRange}, {"21", 20, 0, api.ErrRange}, {"101", 100, 0, api.ErrRange},
		{"0", -1, 0, api.ErrRange}, {"5", -1, 0, api.ErrRange}, {"0", math.MinInt, 0, api.ErrRange}, {"9", math.MinInt, 0, api.ErrRange},
		{"4611686018427387904", 1<<62 - 1, 0, api.ErrRange},
		{"4611686018427387905", 1 << 62, 0, api.ErrRange},
		{"4611686018427387905", math.MaxInt, 0, api.ErrRange},
		{"9223372036854775807", math.MaxInt, 0, api.ErrRange},
		{"9223372036854775808", math.MaxInt, 0, api.ErrRange},
		{"9999999999999999999", math.MaxInt, 0, api.ErrRange},
		{"10000000000000000000", math.MaxInt, 0, api.ErrRange},
		{"18446744073709551615", math.MaxInt, 0, api.ErrRange},
		{"18446744073709551616", math.MaxInt, 0, api.ErrRange},
		{"18446744073709551617", math.MaxInt, 0, api.ErrRange},
		{"36893488147419103233", math.MaxInt, 0, api.ErrRange},
		{"184467440737095516160", math.MaxInt, 0, api.ErrRange},
		{strings.Repeat("9", 100000), math.MaxInt, 0, api.ErrRange},
		{"1" + strings.Repeat("0", 100000), math.MaxInt, 0, api.ErrRange},
	})
}

// P1.3

func TestHexnum(t *testing.T) {
	for n, want := range map[int]string{
		0: "0", 1: "1", 9: "9", 10: "a", 15: "f", 16: "10", 255: "ff", 256: "100", 4096: "1000", 0xabcdef: "abcdef",
		-1: "0", -5: "0", -255: "0", math.MaxInt: "7fffffffffffffff", math.MinInt: "0", math.MinInt + 1: "0",
	} {
		if got := hexa.Hexnum(n); got != want {
			t.Errorf("Hexnum(%d) = %q", n, got)
		}
	}
	for _, n := range numbers() {
		if got := hexa.Hexnum(n); got != strconv.FormatInt(int64(n), 16) {
			t.Errorf("Hexnum(%d) = %q", n, got)
		}
	}
}

func TestUnhexnum(t *testing.T) {
	checkReadings(t, "Unhexnum", hexa.Unhexnum, []reading{
		{"0", 0, 0, api.OK}, {"00fF", 300, 255, api.OK}, {"ff", 255, 255, api.OK}, {"FF", 255, 255, api.OK}, {"aBcDeF", math.MaxInt, 0xabcdef, api.OK},
		{"ABCDEF", math.MaxInt, 0xabcdef, api.OK}, {"0123456789", math.MaxInt, 0x123456789, api.OK},
		{"000", 0, 0, api.OK}, {"0000000000000000", 0, 0, api.OK}, {"0000000000000010", 300, 16, api.OK},
		{"3fffffffffffffff", math.MaxInt, 1<<62 - 1, api.OK},
		{"3FFFFFFFFFFFFFFF", 1 << 62, 1<<62 - 1, api.OK},
		{"4000000000000000", 1 << 62, 1 << 62, api.OK},
		{"4000000000000000", math.MaxInt, 1 << 62, api.OK},
	})
}

func TestUnhexnumOfNoForm(t *testing.T) {
	var list []reading
	for _, s := range []string{
		"", "00000000000000000", "00000000000000001", "11111111111111111", "fffffffffffffffff", strings.Repeat("0", 100000), strings.Repeat("F", 100000),
		"g", "G", "1g", "g1", "0x1", "x", "-1", "+1", "-0", " 1", "1 ", " ", "1;", "f\n", "\x00", "\xff", "`", "@", "/", ":", "1.0", "\u0661", "Ａ",
		"fffffffffffffffg",
	} {
		for _, most := range []int{9, 999, 0, -1, 1 << 62, math.MaxInt, math.MinInt} {
			list = append(list, reading{s, most, 0, api.ErrForm})
		}
	}
	checkReadings(t, "Unhexnum", hexa.Unhexnum, list)
}

func TestUnhexnumOutOfRange(t *testing.T) {
	checkReadings(t, "Unhexnum", hexa.Unhexnum, []reading{
		{"1", 0, 0, api.ErrRange}, {"100", 255, 0, api.ErrRange}, {"00fF", 254, 0, api.ErrRange},
		{"0", -1, 0, api.ErrRange}, {"f", -1, 0, api.ErrRange}, {"0", math.MinInt, 0, api.ErrRange}, {"000", -1, 0, api.ErrRange},
		{"4000000000000000", 1<<62 - 1, 0, api.ErrRange},
		{"4000000000000001", 1 << 62, 0, api.ErrRange},
		{"4000000000000001", math.MaxInt, 0, api.ErrRange},
		{"7fffffffffffffff", math.MaxInt, 0, api.ErrRange},
		{"8000000000000000", math.MaxInt, 0, api.ErrRange},
		{"ffffffffffffffff", 1 << 62, 0, api.ErrRange},
		{"FFFFFFFFFFFFFFFF", math.MaxInt, 0, api.ErrRange},
	})
}

func TestNumbersAreReadAsWritten(t *testing.T) {
	for _, n := range numbers() {
		if n > 1<<62 {
			continue
		}
		list := []reading{{hexa.Dec(n), n, n, api.OK}, {hexa.Dec(n), math.MaxInt, n, api.OK}, {hexa.Dec(n), n - 1, 0, api.ErrRange}}
		checkReadings(t, "Undec", hexa.Undec, list)
		for _, s := range []string{hexa.Hexnum(n), strings.ToUpper(hexa.Hexnum(n))} {
			zeros := strings.Repeat("0", 16-len(s))
			list := []reading{{s, n, n, api.OK}, {s, n - 1, 0, api.ErrRange}, {zeros + s, n, n, api.OK}, {"0" + zeros + s, n, 0, api.ErrForm}}
			checkReadings(t, "Unhexnum", hexa.Unhexnum, list)
		}
	}
}

func TestEachByteAsADigit(t *testing.T) {
	for c := range 256 {
		s := string([]byte{byte(c)})
		dec, hexnum := strings.Index("0123456789", s), strings.Index("0123456789abcdef", strings.ToLower(s))
		list := []reading{{s, 99, max(dec, 0), api.OK}}
		if dec < 0 {
			list[0].e = api.ErrForm
		}
		checkReadings(t, "Undec", hexa.Undec, list)
		list = []reading{{s, 99, max(hexnum, 0), api.OK}}
		if hexnum < 0 {
			list[0].e = api.ErrForm
		}
		checkReadings(t, "Unhexnum", hexa.Unhexnum, list)
	}
}

// P1: none of the calls panics, and whatever is read in one form only would have been written so.
func FuzzAll(f *testing.F) {
	for _, s := range []string{"", "0", "00", "ff", "FF", "4611686018427387904", "4000000000000000", "\xff\x00", "-1", " 1"} {
		for _, n := range []int{0, -1, 255, 1 << 62, math.MaxInt, math.MinInt} {
			f.Add(s, n)
		}
	}
	f.Fuzz(func(t *testing.T, s string, n int) {
		if got, e := hexa.Unhex(hexa.Hex(s)); got != s || e != api.OK {
			t.Errorf("Unhex(Hex(%q)) = %q, %v", s, got, e)
		}
		if got, e := hexa.Unhex(s); e == api.OK && hexa.Hex(got) != s || e != api.OK && (e != api.ErrForm || got != "") {
			t.Errorf("Unhex(%q) = %q, %v", s, got, e)
		}
		if got, e := hexa.Undec(s, n); e == api.OK && (hexa.Dec(got) != s || got > n) || e != api.OK && got != 0 {
			t.Errorf("Undec(%q, %d) = %d, %v", s, n, got, e)
		}
		if got, e := hexa.Unhexnum(s, n); e == api.OK && (got > n || !strings.HasSuffix(strings.ToLower(s), hexa.Hexnum(got))) || e != api.OK && got != 0 {
			t.Errorf("Unhexnum(%q, %d) = %d, %v", s, n, got, e)
		}
		if got := hexa.Dec(n); got != strconv.Itoa(n) {
			t.Errorf("Dec(%d) = %q", n, got)
		}
		if got := hexa.Hexnum(n); got != strconv.FormatInt(int64(max(n, 0)), 16) {
			t.Errorf("Hexnum(%d) = %q", n, got)
		}
	})
}
