package slip_test

import (
	"fmt"
	"math"
	"math/rand"
	"slices"
	"strings"
	"testing"

	"manciple/api"
	"manciple/crc"
	"manciple/slip"
)

func filled(b byte) api.Digest {
	var d api.Digest
	for i := range d {
		d[i] = b
	}
	return d
}

// rising has a byte of its own at each place, so that none can be mistaken.
func rising() api.Digest {
	var d api.Digest
	for i := range d {
		d[i] = byte(i + 1)
	}
	return d
}

// allBytes are these from b on, so many.
func allBytes(b, n int) string {
	list := make([]byte, n)
	for i := range list {
		list[i] = byte(b + i)
	}
	return string(list)
}

// plain is an ordinary slip of each kind.
func plain() []api.Slip {
	d := rising()
	return []api.Slip{
		{Kind: api.SlipBind, Repo: "lib/x", Tag: "v1", Digest: d, Type: "application/x", Size: 1234, At: 56789},
		{Kind: api.SlipMiss, Repo: "lib/x", Tag: "v2", At: 77},
		{Kind: api.SlipDrop, Repo: "lib/x", Tag: "v3"},
		{Kind: api.SlipBlob, Digest: d, Type: "text/plain", Size: 99},
		{Kind: api.SlipGone, Digest: d},
		{Kind: api.SlipTouch, Digest: d},
	}
}

// goodSlips has each field that a kind has at its edges.
func goodSlips() []api.Slip {
	list := plain()
	for _, x := range plain() {
		for _, o := range edges() {
			if y := o.changed(x); canBe(y) {
				list = append(list, y)
			}
		}
	}
	list = append(list,
		api.Slip{Kind: api.SlipBind, Repo: "a", Tag: "b"},
		api.Slip{Kind: api.SlipMiss, Repo: "a", Tag: "b"},
		api.Slip{Kind: api.SlipBlob}, api.Slip{Kind: api.SlipGone}, api.Slip{Kind: api.SlipTouch},
		longest(),
	)
	return list
}

// longest is the slip whose record has the most bytes.
func longest() api.Slip {
	return api.Slip{Kind: api.SlipBind, Repo: allBytes(0, longestRepo), Tag: allBytes(128, longestTag), Digest: filled(0xff), Type: allBytes(77, longestType), Size: mostSize, At: mostAt}
}

// edge makes one field another one.
type edge struct {
	name    string
	changed func(x api.Slip) api.Slip
}

// edges has those that can be, of the kinds that have the field, and those
// that can't.
func edges() []edge {
	var list []edge
	add := func(name string, change func(x *api.Slip)) {
		list = append(list, edge{name, func(x api.Slip) api.Slip { change(&x); return x }})
	}
	for _, n := range []int{0, 1, 2, 99, 100, 101, 127, 128, 129, 255, 256, 257, 384, 1024, 1 << 16} {
		s := strings.Repeat("n", n)
		add(fmt.Sprint("Repo of ", n), func(x *api.Slip) { x.Repo = s })
		add(fmt.Sprint("Tag of ", n), func(x *api.Slip) { x.Tag = s })
		add(fmt.Sprint("Type of ", n), func(x *api.Slip) { x.Type = s })
	}
	for _, s := range []string{"\x00", "\xff", "caf\u00e9", "\xc3", "A B", "/", "..", "\r\n", "\x00\x01\x00"} {
		add(fmt.Sprintf("Repo %q", s), func(x *api.Slip) { x.Repo = s })
		add(fmt.Sprintf("Tag %q", s), func(x *api.Slip) { x.Tag = s })
		add(fmt.Sprintf("Type %q", s), func(x *api.Slip) { x.Type = s })
	}
	for _, n := range someNumbers() {
		add(fmt.Sprint("Size ", n), func(x *api.Slip) { x.Size = n })
		add(fmt.Sprint("At ", n), func(x *api.Slip) { x.At = n })
	}
	for at := range len(api.Digest{}) {
		add(fmt.Sprint("Digest's byte ", at), func(x *api.Slip) { x.Digest[at] ^= 0x80 })
	}
	add("Digest", func(x *api.Slip) { x.Digest = filled(0xff) })
	add("Digest", func(x *api.Slip) { x.Digest = api.Digest{} })
	return list
}

func someNumbers() []int {
	list := []int{math.MinInt, math.MinInt + 1, -1 << 40, -1 << 32, -256, -2, -1, 0, 1, 255, 256, 257, math.MaxInt - 1, math.MaxInt}
	for bit := 16; bit < 63; bit++ {
		list = append(list, 1<<bit-1, 1<<bit, 1<<bit+1)
	}
	return append(list, 0x0102030405, 0x010203)
}

// someBytes are those at which a kind, a length or a number may be another
// one, as one-byte texts.
func someBytes() []string {
	var list []string
	for _, b := range []byte{0, 1, 2, 3, 4, 5, 6, 7, 16, 17, 99, 100, 101, 127, 128, 129, 254, 255} {
		list = append(list, string([]byte{b}))
	}
	return list
}

func mustBeNone(t *testing.T, what, s string, want api.Errno) {
	t.Helper()
	if x, n, e := slip.Read(s); x != (api.Slip{}) || n != 0 || e != want {
		t.Errorf("Read of %s, %.80q: %v, %d, error %d, want error %d and nothing else", what, s, x, n, e, want)
	}
	if list, n := slip.All(s); len(list) != 0 || n != 0 {
		t.Errorf("All of %s, %.80q: %v, %d, want none", what, s, list, n)
	}
}

func mustRead(t *testing.T, s string, want api.Slip, size int) {
	t.Helper()
	if x, n, e := slip.Read(s); x != want || n != size || e != api.OK {
		t.Errorf("Read of %.80q: %v, %d, error %d, want %v, %d", s, x, n, e, want, size)
	}
}

func mustAll(t *testing.T, s string, want []api.Slip, size int) {
	t.Helper()
	if list, n := slip.All(s); !slices.Equal(list, want) || n != size {
		t.Errorf("All of %.80q: %d slips of %d bytes, want %d of %d", s, len(list), n, len(want), size)
	}
}

// mustRefuse holds that a slip can't be.
func mustRefuse(t *testing.T, what string, x api.Slip) {
	t.Helper()
	if slip.Good(x) {
		t.Errorf("%s: kind %d is good", what, x.Kind)
	}
	if s, e := slip.Write(x); s != "" || e != api.ErrArg {
		t.Errorf("%s: Write of kind %d is %.80q, error %d, want ErrArg", what, x.Kind, s, e)
	}
}

func mustWrite(t *testing.T, x api.Slip, want string) {
	t.Helper()
	if !slip.Good(x) {
		t.Errorf("%v isn't good", x)
	}
	if s, e := slip.Write(x); s != want || e != api.OK {
		t.Errorf("Write of %v is %q, error %d, want %q", x, s, e, want)
	}
}

// The chapter's example.

func TestExample(t *testing.T) {
	d := rising()
	s, e := slip.Write(api.Slip{Kind: api.SlipGone, Digest: d})
	if len(s) != 39 || e != api.OK {
		t.Fatalf("%q, error %d", s, e)
	}
	want := "\x00\x21" + crc.Tail(crc.Of("\x00\x21\x05", string(d[:]))) + "\x05" + string(d[:])
	if s != want {
		t.Errorf("%q, want %q", s, want)
	}
}

// P8.1

// Records byte by byte, their sums from elsewhere.
func TestWriteOfKnownBytes(t *testing.T) {
	zeros := strings.Repeat("\x00", 32)
	for _, c := range []struct {
		x    api.Slip
		want string
	}{
		{api.Slip{Kind: api.SlipBind, Repo: "ab", Tag: "c", Digest: api.Digest{0: 9, 31: 8}, Type: "d/e", Size: 0x012345, At: 0x0102030405},
			"\x00\x3a" + "SUM4" + "\x01" + "\x02ab" + "\x01c" + "\x09" + zeros[:30] + "\x08" + "\x03d/e" + "\x00\x00\x00\x00\x00\x01\x23\x45" + "\x00\x00\x00\x01\x02\x03\x04\x05"},
		{api.Slip{Kind: api.SlipMiss, Repo: "ab", Tag: "c", At: 6}, "\x00\x0e" + "SUM4" + "\x02" + "\x02ab" + "\x01c" + "\x00\x00\x00\x00\x00\x00\x00\x06"},
		{api.Slip{Kind: api.SlipDrop, Repo: "ab", Tag: "c"}, "\x00\x06" + "SUM4" + "\x03" + "\x02ab" + "\x01c"},
		{api.Slip{Kind: api.SlipBlob, Type: "d/e", Size: 1 << 20}, "\x00\x2d" + "SUM4" + "\x04" + zeros + "\x03d/e" + "\x00\x00\x00\x00\x00\x10\x00\x00"},
		{api.Slip{Kind: api.SlipBlob}, "\x00\x2a" + "SUM4" + "\x04" + zeros + "\x00" + "\x00\x00\x00\x00\x00\x00\x00\x00"},
		{api.Slip{Kind: api.SlipGone}, "\x00\x21" + "SUM4" + "\x05" + zeros},
		{api.Slip{Kind: api.SlipTouch}, "\x00\x21" + "SUM4" + "\x06" + zeros},
	} {
		want := c.want[:2] + crc.Tail(crc.Of(c.want[:2], c.want[6:])) + c.want[6:]
		mustWrite(t, c.x, want)
		mustRead(t, want, c.x, len(want))
	}
}

func TestSumOfAKnownRecord(t *testing.T) {
	// The sum of 00 06 03 02 61 62 01 63 is FFCF4516, as zip has it.
	mustWrite(t, api.Slip{Kind: api.SlipDrop, Repo: "ab", Tag: "c"}, "\x00\x06\x16\x45\xcf\xff\x03\x02ab\x01c")
}

func TestGoodAndWriteAtAllEdges(t *testing.T) {
	count := 0
	for _, x := range plain() {
		mustWrite(t, x, record(x))
		for _, o := range edges() {
			y := o.changed(x)
			if canBe(y) {
				count++
				mustWrite(t, y, record(y))
			} else {
				mustRefuse(t, o.name, y)
			}
		}
	}
	if count < 200 {
		t.Errorf("only %d of these slips can be", count)
	}
}

// The edges of the chapter's numbers, written out.
func TestLengthsOfTexts(t *testing.T) {
	of := func(n int) string { return strings.Repeat("x", n) }
	for _, n := range []int{1, 2, 100, 127, 128} {
		mustWrite(t, api.Slip{Kind: api.SlipDrop, Repo: of(n), Tag: "t"}, framed("\x03"+text(of(n))+"\x01t"))
		mustWrite(t, api.Slip{Kind: api.SlipDrop, Repo: "r", Tag: of(n)}, framed("\x03\x01r"+text(of(n))))
	}
	for _, n := range []int{0, 129, 130, 255, 256, 257, 384, 1 << 20} {
		for _, kind := range []int{api.SlipBind, api.SlipMiss, api.SlipDrop} {
			mustRefuse(t, fmt.Sprint("a Repo of ", n), api.Slip{Kind: kind, Repo: of(n), Tag: "t"})
			mustRefuse(t, fmt.Sprint("a Tag of ", n), api.Slip{Kind: kind, Repo: "r", Tag: of(n)})
		}
	}
	for _, n := range []int{0, 1, 99, 100} {
		mustWrite(t, api.Slip{Kind: api.SlipBlob, Type: of(n)}, framed("\x04"+strings.Repeat("\x00", 32)+text(of(n))+eight(0)))
	}
	for _, n := range []int{101, 128, 256, 356, 1 << 20} {
		mustRefuse(t, fmt.Sprint("a Type of ", n), api.Slip{Kind: api.SlipBlob, Type: of(n)})
		mustRefuse(t, fmt.Sprint("a Type of ", n), api.Slip{Kind: api.SlipBind, Repo: "r", Tag: "t", Type: of(n)})
	}
}

func TestNumbers(t *testing.T) {
	zeros := strings.Repeat("\x00", 32)
	for n, bytes := range map[int]string{
		0: "\x00\x00\x00\x00", 1: "\x00\x00\x00\x01", 255: "\x00\x00\x00\xff", 256: "\x00\x00\x01\x00", 65536: "\x00\x01\x00\x00",
		1<<20 - 1: "\x00\x0f\xff\xff", 1 << 20: "\x00\x10\x00\x00",
	} {
		mustWrite(t, api.Slip{Kind: api.SlipBlob, Size: n}, framed("\x04"+zeros+"\x00"+"\x00\x00\x00\x00"+bytes))
	}
	for n, bytes := range map[int]string{
		0: "\x00\x00\x00\x00\x00\x00", 1: "\x00\x00\x00\x00\x00\x01", 1<<20 + 1: "\x00\x00\x00\x10\x00\x01", 1 << 32: "\x00\x01\x00\x00\x00\x00",
		1<<40 - 1: "\x00\xff\xff\xff\xff\xff", 1 << 40: "\x01\x00\x00\x00\x00\x00",
	} {
		mustWrite(t, api.Slip{Kind: api.SlipMiss, Repo: "r", Tag: "t", At: n}, framed("\x02\x01r\x01t\x00\x00"+bytes))
	}
	for _, n := range []int{math.MinInt, -1 << 32, -1, 1<<20 + 1, 1 << 32, 1 << 40, math.MaxInt} {
		mustRefuse(t, fmt.Sprint("Size ", n), api.Slip{Kind: api.SlipBlob, Size: n})
		mustRefuse(t, fmt.Sprint("Size ", n), api.Slip{Kind: api.SlipBind, Repo: "r", Tag: "t", Size: n})
	}
	for _, n := range []int{math.MinInt, -1 << 40, -1, 1<<40 + 1, 1 << 41, math.MaxInt} {
		mustRefuse(t, fmt.Sprint("At ", n), api.Slip{Kind: api.SlipMiss, Repo: "r", Tag: "t", At: n})
		mustRefuse(t, fmt.Sprint("At ", n), api.Slip{Kind: api.SlipBind, Repo: "r", Tag: "t", At: n})
	}
}

// A kind whose lowest byte is a kind is none.
func TestNoKinds(t *testing.T) {
	for _, kind := range []int{math.MinInt, math.MinInt + 1, -256, -255, -1, 0, 7, 8, 255, 256, 257, 262, 1<<32 + 1, 1<<32 + 5, math.MaxInt} {
		mustRefuse(t, "no kind", api.Slip{Kind: kind})
		for _, x := range plain() {
			x.Kind = kind
			mustRefuse(t, "no kind", x)
		}
	}
}

// Each kind with one field too many, and with one less.
func TestFieldsOfAKind(t *testing.T) {
	for _, x := range plain() {
		for letter, change := range map[string]func(x *api.Slip){
			"R": func(x *api.Slip) { x.Repo = "r" },
			"T": func(x *api.Slip) { x.Tag = "t" },
			"D": func(x *api.Slip) { x.Digest[31] = 1 },
			"Y": func(x *api.Slip) { x.Type = "y" },
			"S": func(x *api.Slip) { x.Size = 1 },
			"A": func(x *api.Slip) { x.At = 1 },
		} {
			y := x
			change(&y)
			if strings.Contains(row(x.Kind), letter) {
				mustWrite(t, y, record(y))
			} else {
				mustRefuse(t, "a field too many: "+letter, y)
			}
		}
	}
	for _, kind := range []int{api.SlipBind, api.SlipMiss, api.SlipDrop} {
		mustRefuse(t, "no Repo", api.Slip{Kind: kind, Tag: "t"})
		mustRefuse(t, "no Tag", api.Slip{Kind: kind, Repo: "r"})
		mustRefuse(t, "neither", api.Slip{Kind: kind})
	}
	mustRefuse(t, "nothing", api.Slip{})
}

func TestTextsOfAnyBytes(t *testing.T) {
	for b := range 256 {
		s := string([]byte{byte(b)})
		x := api.Slip{Kind: api.SlipBind, Repo: s, Tag: s + "x", Digest: filled(byte(b)), Type: "x" + s, Size: b, At: b}
		mustWrite(t, x, record(x))
		mustRead(t, record(x), x, len(record(x)))
	}
}

// P8.2

func TestFewerThanSixBytes(t *testing.T) {
	for n := range ahead {
		mustBeNone(t, "few bytes", strings.Repeat("\x00", n), api.ErrShort)
		mustBeNone(t, "few bytes", strings.Repeat("\xff", n), api.ErrShort)
		mustBeNone(t, "few bytes", record(plain()[4])[:n], api.ErrShort)
	}
}

// A length that can't be is told ahead of bytes that aren't there, and ahead
// of the sum; one that can be isn't.
func TestLengths(t *testing.T) {
	for n := range 1 << 16 {
		head := string([]byte{byte(n >> 8), byte(n)}) + "SUM4"
		want := api.ErrShort
		if n == 0 || n > 1024 {
			want = api.ErrForm
		}
		mustBeNone(t, fmt.Sprint("the length ", n), head, want)
		if n < 3000 {
			mustBeNone(t, "a byte too few", head+strings.Repeat("x", max(n-1, 0)), want)
		}
	}
	for _, n := range []int{1025, 1026, 2048, 65535} {
		mustBeNone(t, fmt.Sprint("a record of ", n), framed(strings.Repeat("\x05", n)), api.ErrForm)
	}
	mustBeNone(t, "a record of nothing", framed(""), api.ErrForm)
	mustBeNone(t, "a record of nothing, and more", framed("")+record(plain()[4]), api.ErrForm)
	mustBeNone(t, "a sum that is another one", "\x04\x00SUM4"+strings.Repeat("\x05", 1024), api.ErrSum)
	mustBeNone(t, "a sum that is another one", "\x00\x01SUM4\x05", api.ErrSum)
}

// All lengths that can be, with bytes of no slip: the body is what is wrong.
func TestBodiesOfAllLengths(t *testing.T) {
	for n := 1; n <= longestBody; n++ {
		for _, b := range []string{"\x00", "\x01", "\x05", "\x07", "\xff"} {
			s := framed(strings.Repeat(b, n))
			if b == "\x05" && n == 33 {
				mustRead(t, s, api.Slip{Kind: api.SlipGone, Digest: filled(5)}, 39)
				continue
			}
			mustBeNone(t, fmt.Sprint("a body of ", n), s, api.ErrForm)
		}
	}
}

func TestCutOffRecords(t *testing.T) {
	for _, x := range append(plain(), longest()) {
		s := record(x)
		for n := range len(s) {
			mustBeNone(t, "what was cut off", s[:n], api.ErrShort)
		}
		mustRead(t, s, x, len(s))
	}
}

func TestWhatStandsBehindIsNotRead(t *testing.T) {
	for _, x := range goodSlips() {
		s := record(x)
		for _, more := range []string{"", "\x00", "\xff", "abc", s, s[:len(s)-1], strings.Repeat("\x00", 2000)} {
			mustRead(t, s+more, x, len(s))
		}
	}
}

// Each byte of the sum and of the body another one, in all ways.
func TestAnotherSum(t *testing.T) {
	for _, x := range plain() {
		s := record(x)
		for at := 2; at < len(s); at++ {
			for b := range 256 {
				if byte(b) != s[at] {
					mustBeNone(t, "a changed record", s[:at]+string([]byte{byte(b)})+s[at+1:], api.ErrSum)
				}
			}
		}
	}
}

// Sums that might be mistaken for the right one.
func TestSumsOfOtherBytes(t *testing.T) {
	for _, x := range plain() {
		s := body(x)
		length := record(x)[:2]
		sum := []byte(crc.Tail(crc.Of(length, s)))
		slices.Reverse(sum)
		for _, tail := range []string{
			string(sum), crc.Tail(crc.Of(s)), crc.Tail(crc.Of(s, length)), crc.Tail(crc.Of(length[1:]+length[:1], s)),
			crc.Tail(crc.Of(length, s[1:])), crc.Tail(crc.Of(length, s, "\x00")), crc.Tail(^crc.Of(length, s)), "\x00\x00\x00\x00",
		} {
			mustBeNone(t, "another sum", length+tail+s, api.ErrSum)
		}
		mustBeNone(t, "the length's bytes turned round", length[1:]+length[:1]+record(x)[2:], errorOf(length[1:]+length[:1]+record(x)[2:]))
	}
}

func errorOf(s string) api.Errno {
	_, _, e := read(s)
	return e
}

// A changed length is told, whatever stands behind the record.
func TestAnotherLength(t *testing.T) {
	for _, x := range plain() {
		s := record(x)
		for n := range 2000 {
			other := string([]byte{byte(n >> 8), byte(n)}) + s[2:]
			if other == s {
				continue
			}
			for _, more := range []string{"", strings.Repeat("\x00", 2000), strings.Repeat(s, 60)} {
				want := errorOf(other + more)
				if want == api.OK {
					t.Fatalf("%q is a record", other)
				}
				mustBeNone(t, "a changed length", other+more, want)
			}
		}
	}
}

// The sum is told ahead of what is wrong with the body.
func TestSumAheadOfBody(t *testing.T) {
	for _, s := range []string{"\x00", "\x07", "\x03\x00\x01b", "\x05", strings.Repeat("\x01", 1024)} {
		record := framed(s)
		mustBeNone(t, "no slip's body", record, api.ErrForm)
		for at := 2; at < 6; at++ {
			mustBeNone(t, "with another sum", record[:at]+string([]byte{record[at] ^ 1})+record[at+1:], api.ErrSum)
		}
	}
}

func TestNoSlipsBodies(t *testing.T) {
	digest := strings.Repeat("d", 32)
	of := func(n int) string { return text(strings.Repeat("x", n)) }
	for _, s := range []string{
		"\x00", "\x07", "\xff", "\x00" + digest, "\x07" + digest, "\xff" + digest,
		"\x01", "\x02", "\x03", "\x04", "\x05", "\x06",
		"\x05" + digest[1:], "\x05" + digest + "\x00", "\x06" + digest[1:], "\x06" + digest + digest,
		"\x03\x00\x01b", "\x03\x01a\x00", "\x03\x00\x00", "\x03\x01a", "\x03\x01a\x02b", "\x03\x02a\x01b", "\x03\xffa\x01b", "\x03\x01a\x01bc", "\x03\x01a\x01b\x00",
		"\x03" + of(129) + of(1), "\x03" + of(1) + of(129), "\x03" + of(255) + of(1), "\x03" + of(255) + of(255), "\x03" + of(0) + of(128),
		"\x02\x01a\x01b" + eight(0)[1:], "\x02\x01a\x01b" + eight(0) + "\x00", "\x02\x00\x01b" + eight(0), "\x02\x01a\x00" + eight(0), "\x02\x01a\x01b",
		"\x02\x01a\x01b" + eight(1<<40+1), "\x02\x01a\x01b" + eight(1<<41), "\x02\x01a\x01b" + eight(1<<62), "\x02\x01a\x01b" + eight(1<<63), "\x02\x01a\x01b" + eight(1<<63+7), "\x02\x01a\x01b" + eight(math.MaxUint64),
		"\x04" + digest, "\x04" + digest + "\x00", "\x04" + digest + of(0) + eight(0)[1:], "\x04" + digest + of(0) + eight(0) + "\x00", "\x04" + digest + eight(1), "\x04" + digest + of(3) + eight(1)[1:],
		"\x04" + digest + of(101) + eight(0), "\x04" + digest + of(128) + eight(0), "\x04" + digest + of(255) + eight(0),
		"\x04" + digest + of(0) + eight(1<<20+1), "\x04" + digest + of(0) + eight(1<<32), "\x04" + digest + of(0) + eight(1<<40), "\x04" + digest + of(0) + eight(1<<63), "\x04" + digest + of(0) + eight(math.MaxUint64),
		"\x01\x01a\x01b" + digest + of(0) + eight(0), "\x01\x01a\x01b" + digest + of(0) + eight(0) + eight(0) + "\x00", "\x01\x01a\x01b" + digest + of(0) + eight(0) + eight(0)[1:],
		"\x01\x01a\x01b" + digest + of(0) + eight(1<<20+1) + eight(0), "\x01\x01a\x01b" + digest + of(0) + eight(0) + eight(1<<40+1), "\x01\x01a\x01b" + digest + of(101) + eight(0) + eight(0),
		"\x01\x00\x01b" + digest + of(0) + eight(0) + eight(0), "\x01\x01a\x00" + digest + of(0) + eight(0) + eight(0), "\x01" + of(129) + of(1) + digest + of(0) + eight(0) + eight(0), "\x01" + of(1) + of(129) + digest + of(0) + eight(0) + eight(0),
	} {
		mustBeNone(t, "no slip's body", framed(s), api.ErrForm)
		mustBeNone(t, "no slip's body, and more", framed(s)+record(plain()[4]), api.ErrForm)
	}
}

// Each body a byte shorter or longer at each place, with its own sum.
func TestBodiesAByteShorterOrLonger(t *testing.T) {
	for _, x := range append(plain(), longest()) {
		s := body(x)
		for n := range len(s) {
			if n > 0 {
				mustBeNone(t, "a beginning of a body", framed(s[:n]), api.ErrForm)
			}
			mustBeAsTold(t, framed(s[:n]+s[n+1:]))
			for _, b := range someBytes() {
				mustBeAsTold(t, framed(s[:n]+b+s[n:]))
			}
		}
		for b := range 256 {
			mustBeNone(t, "a body and a byte", framed(s+string([]byte{byte(b)})), api.ErrForm)
		}
	}
}

// mustBeAsTold holds the answers against the second way of working them out.
func mustBeAsTold(t *testing.T, s string) {
	t.Helper()
	x, n, e := slip.Read(s)
	if y, m, f := read(s); x != y || n != m || e != f {
		t.Errorf("Read of %.80q: %v, %d, error %d, want %v, %d, error %d", s, x, n, e, y, m, f)
	}
	list, size := readAll(s)
	mustAll(t, s, list, size)
	if e != api.OK {
		return
	}
	if again, e := slip.Write(x); again != s[:n] || e != api.OK || !slip.Good(x) {
		t.Errorf("%.80q is read, but written as %.80q", s[:n], again)
	}
}

func TestAllOfNothing(t *testing.T) {
	mustAll(t, "", nil, 0)
	mustAll(t, "\x00", nil, 0)
	mustAll(t, strings.Repeat("\x00", 1000), nil, 0)
	mustAll(t, strings.Repeat("\xff", 1000), nil, 0)
}

func joined(list []api.Slip) string {
	var b strings.Builder
	for _, x := range list {
		b.WriteString(record(x))
	}
	return b.String()
}

func TestAll(t *testing.T) {
	list := goodSlips()
	s := joined(list)
	mustAll(t, s, list, len(s))
	for _, more := range []string{"\x00", "\x00\x00", "abcdef", "\x00\x21", record(list[4])[:38], strings.Repeat("\x00", 50), "\xff\xff\xff\xff\xff\xff"} {
		mustAll(t, s+more, list, len(s))
	}
}

func TestAllOfMany(t *testing.T) {
	var list []api.Slip
	for i := range 20000 {
		list = append(list, api.Slip{Kind: api.SlipMiss, Repo: "r", Tag: fmt.Sprint("t", i), At: i})
	}
	s := joined(list)
	mustAll(t, s, list, len(s))
	mustAll(t, s[:len(s)-1], list[:len(list)-1], len(s)-len(record(list[len(list)-1])))
}

// Wherever a row of records is cut, those that are whole are read.
func TestAllOfWhatWasCutOff(t *testing.T) {
	list := plain()
	s := joined(list)
	whole, size := 0, 0
	for n := range len(s) + 1 {
		if whole < len(list) && n == size+len(record(list[whole])) {
			size = n
			whole++
		}
		mustAll(t, s[:n], list[:whole], size)
	}
	if whole != len(list) {
		t.Errorf("%d were read", whole)
	}
}

// Whichever byte is changed, what stands ahead is read, and nothing behind.
func TestAllEndsAtTheFirstError(t *testing.T) {
	list := plain()
	s := joined(list)
	whole, size := 0, 0
	for at := range len(s) {
		if at == size+len(record(list[whole])) {
			size = at
			whole++
		}
		for bit := range 8 {
			mustAll(t, s[:at]+string([]byte{s[at] ^ 1<<bit})+s[at+1:], list[:whole], size)
		}
	}
}

func TestAllEndsAtABodyOfNoSlip(t *testing.T) {
	list := plain()
	for i := range list {
		head := joined(list[:i])
		for _, s := range []string{framed("\x07"), framed("\x05"), framed("\x03\x00\x01b"), framed(strings.Repeat("\x00", 1024)), "\x00\x00\x00\x00\x00\x00"} {
			mustAll(t, head+s+joined(list[i:]), list[:i], len(head))
		}
	}
}

// P8.3

func TestEachIsReadAsItWasWritten(t *testing.T) {
	of := map[string]api.Slip{}
	for _, x := range goodSlips() {
		s, e := slip.Write(x)
		if e != api.OK {
			t.Fatalf("Write of %v: error %d", x, e)
		}
		mustRead(t, s, x, len(s))
		if other, ok := of[s]; ok && other != x {
			t.Errorf("%v and %v have one record", x, other)
		}
		of[s] = x
		if again, _ := slip.Write(x); again != s {
			t.Errorf("%v has two records, %q and %q", x, s, again)
		}
	}
	if len(of) < 200 {
		t.Errorf("only %d records", len(of))
	}
}

// Of all bodies that differ from a slip's in one byte, with their own sums,
// just those are read that would have been written so.
func TestWhatIsReadWouldHaveBeenWritten(t *testing.T) {
	readable := 0
	for _, x := range append(plain(), longest()) {
		s := body(x)
		for at := range len(s) {
			for _, b := range someBytes() {
				other := framed(s[:at] + b + s[at+1:])
				mustBeAsTold(t, other)
				if y, _, e := slip.Read(other); e == api.OK {
					readable++
					if b != s[at:at+1] && y == x {
						t.Errorf("%v has two records", x)
					}
				}
			}
		}
	}
	if readable < 1000 {
		t.Errorf("only %d were read", readable)
	}
}

// scattered is a slip without a pattern, that can be.
func scattered(r *rand.Rand) api.Slip {
	some := func(least, most int) string {
		b := make([]byte, least+r.Intn(most-least+1))
		r.Read(b)
		return string(b)
	}
	x := api.Slip{Kind: 1 + r.Intn(6)}
	for _, letter := range row(x.Kind) {
		switch letter {
		case 'R':
			x.Repo = some(1, longestRepo)
		case 'T':
			x.Tag = some(1, longestTag)
		case 'D':
			r.Read(x.Digest[:])
		case 'Y':
			x.Type = some(0, longestType)
		case 'S':
			x.Size = r.Intn(mostSize + 1)
		case 'A':
			x.At = r.Intn(mostAt + 1)
		}
	}
	return x
}

func TestRowsAreReadAsTheyWere(t *testing.T) {
	r := rand.New(rand.NewSource(8))
	for range 300 {
		var list []api.Slip
		written := ""
		for range r.Intn(20) {
			x := scattered(r)
			s, e := slip.Write(x)
			if e != api.OK || s != record(x) {
				t.Fatalf("Write of %v is %q, error %d", x, s, e)
			}
			list = append(list, x)
			written += s
		}
		mustAll(t, written, list, len(written))
		at := r.Intn(len(written) + 1)
		mustBeAsTold(t, written[:at])
		mustBeAsTold(t, written[at:])
		mustBeAsTold(t, written[:at]+"\x00"+written[at:])
	}
}

// The longest record is no longer than what is read.
func TestLongestRecord(t *testing.T) {
	s, e := slip.Write(longest())
	if e != api.OK || len(s) != 6+408 {
		t.Errorf("%d bytes, error %d", len(s), e)
	}
	mustRead(t, s, longest(), len(s))
}

// Answers are the caller's own (rule 3), and hang on arguments alone (rule 4).

func TestAnswersAreApart(t *testing.T) {
	list := plain()
	s := joined(list)
	first, _ := slip.All(s)
	for i := range first {
		first[i] = api.Slip{}
	}
	_ = append(first, api.Slip{})
	mustAll(t, s, list, len(s))
	x := list[0]
	slip.Good(x)
	slip.Write(x)
	if x != plain()[0] {
		t.Error("a slip that was handed in was changed")
	}
	slip.Read("\x00")
	slip.Write(api.Slip{})
	mustAll(t, s, list, len(s))
}

// P1, and all of the above at any arguments.

func FuzzAnySlip(f *testing.F) {
	for _, x := range goodSlips()[:40] {
		f.Add(x.Kind, x.Repo, x.Tag, x.Digest[:], x.Type, x.Size, x.At)
	}
	f.Add(math.MinInt, "", strings.Repeat("t", 300), []byte{1}, "\xff", math.MaxInt, -1)
	f.Fuzz(func(t *testing.T, kind int, repo, tag string, digest []byte, media string, size, at int) {
		x := api.Slip{Kind: kind, Repo: repo, Tag: tag, Type: media, Size: size, At: at}
		copy(x.Digest[:], digest)
		if canBe(x) {
			mustWrite(t, x, record(x))
			mustBeAsTold(t, record(x))
		} else {
			mustRefuse(t, "any slip", x)
		}
	})
}

func FuzzAnyBytes(f *testing.F) {
	for _, x := range goodSlips()[:40] {
		f.Add(body(x), record(x), true)
		f.Add(record(x), body(x), false)
	}
	f.Fuzz(func(t *testing.T, s, more string, frame bool) {
		if frame && len(s) < 1<<16 {
			s = framed(s)
		}
		mustBeAsTold(t, s)
		mustBeAsTold(t, s+more)
		mustBeAsTold(t, s+s)
	})
}
