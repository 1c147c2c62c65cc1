package crc_test

import (
	"hash/crc32"
	"math"
	"math/bits"
	"math/rand"
	"slices"
	"strings"
	"testing"

	"manciple/crc"
)

const (
	ofNine = 0xCBF43926

	// The sum of every text with Tail of its sum behind it.
	behindTail = 0x2144DF1C
)

func someBytes(n int) string {
	b := make([]byte, n)
	rand.New(rand.NewSource(int64(n))).Read(b)
	return string(b)
}

func someTexts() []string {
	list := []string{
		"", "\x00", "\xff", "a", "ab", "abc", "123456789", "\x00\x00\x00\x00", "\xff\xff\xff\xff",
		strings.Repeat("\x00", 300), strings.Repeat("\xff", 300), "\xc3\xa4\u20ac\xf0",
	}
	for _, n := range []int{3, 4, 5, 7, 8, 9, 15, 16, 17, 63, 64, 65, 255, 256, 257, 1023, 1024, 1025} {
		list = append(list, someBytes(n))
	}
	return list
}

func someSums() []uint32 {
	list := []uint32{0, 1, 0xff, 0x100, 0x80000000, math.MaxUint32, math.MaxUint32 - 1, 0xEDB88320, ofNine, behindTail}
	r := rand.New(rand.NewSource(3))
	for range 40 {
		list = append(list, r.Uint32())
	}
	return list
}

// The sum word by word as the chapter's section Words has it, bit by bit, from
// which the package's own way may part.
func byWords(s string) uint32 {
	sum := uint32(0xFFFFFFFF)
	for _, c := range []byte(s) {
		sum ^= uint32(c)
		for range 8 {
			fell := sum % 2
			sum /= 2
			if fell == 1 {
				sum ^= 0xEDB88320
			}
		}
	}
	return sum ^ 0xFFFFFFFF
}

// The text with some bits turned; a byte's lowest bit is its first one, since
// it falls off first.
func turned(s string, from int, pattern uint32) string {
	b := []byte(s)
	for i := range 32 {
		if pattern>>i&1 == 1 {
			b[(from+i)/8] ^= 1 << ((from + i) % 8)
		}
	}
	return string(b)
}

// The chapter's examples.

func TestExamples(t *testing.T) {
	if n := crc.Of("123456789"); n != ofNine {
		t.Errorf("Of(123456789) = %x", n)
	}
	if n := crc.Of(); n != 0 {
		t.Errorf("Of() = %x", n)
	}
}

// P3.1

func TestOfKnownBytes(t *testing.T) {
	for s, sum := range map[string]uint32{
		"":                 0,
		"a":                0xE8B7BE43,
		"abc":              0x352441C2,
		"\x00":             0xD202EF8D,
		"\xff":             0xFF000000,
		"\x00\x00\x00\x00": 0x2144DF1C,
		"\xff\xff\xff\xff": 0xFFFFFFFF,
		"message digest":   0x20159D7F,
		"The quick brown fox jumps over the lazy dog": 0x414FA339,
	} {
		if got := crc.Of(s); got != sum {
			t.Errorf("Of(%q) = %x, want %x", s, got, sum)
		}
	}
}

func TestOfIsTheSumOfTheWords(t *testing.T) {
	for _, s := range someTexts() {
		if got, sum := crc.Of(s), byWords(s); got != sum {
			t.Errorf("Of(%q) = %x, want %x", s, got, sum)
		}
	}
}

func TestOfEachByte(t *testing.T) {
	for c := range 256 {
		for _, ahead := range []string{"", "x"} {
			s := ahead + string([]byte{byte(c)})
			if got, sum := crc.Of(s), byWords(s); got != sum {
				t.Errorf("Of(%q) = %x, want %x", s, got, sum)
			}
		}
	}
}

func TestOfManyBytes(t *testing.T) {
	s := someBytes(1 << 20)
	if got, sum := crc.Of(s), crc32.ChecksumIEEE([]byte(s)); got != sum {
		t.Errorf("Of of 2^20 bytes = %x, want %x", got, sum)
	}
}

func TestOfNothing(t *testing.T) {
	for _, parts := range [][]string{nil, {}, {""}, {"", "", ""}} {
		if n := crc.Of(parts...); n != 0 {
			t.Errorf("Of(%q) = %x", parts, n)
		}
	}
}

func TestOfTakesPartsInTheirOrder(t *testing.T) {
	if got, sum := crc.Of("a", "b"), byWords("ab"); got != sum {
		t.Errorf("Of(a, b) = %x, want %x", got, sum)
	}
	if got, sum := crc.Of("b", "a"), byWords("ba"); got != sum {
		t.Errorf("Of(b, a) = %x, want %x", got, sum)
	}
	if crc.Of("a", "b") == crc.Of("b", "a") {
		t.Error("the order of parts is not told")
	}
}

func TestOfLeavesParts(t *testing.T) {
	room := []string{"12", "345", "6789", "spare"}
	crc.Of(room[:3]...)
	if !slices.Equal(room, []string{"12", "345", "6789", "spare"}) {
		t.Errorf("parts are %q", room)
	}
}

func TestMoreGoesOnBehindASum(t *testing.T) {
	for _, ahead := range someTexts() {
		for _, s := range someTexts() {
			if got, sum := crc.More(crc.Of(ahead), s), byWords(ahead+s); got != sum {
				t.Errorf("More(Of(%q), %q) = %x, want %x", ahead, s, got, sum)
			}
		}
	}
}

func TestMoreOfNothing(t *testing.T) {
	for _, sum := range someSums() {
		if got := crc.More(sum, ""); got != sum {
			t.Errorf("More(%x, nothing) = %x", sum, got)
		}
	}
}

func TestMoreFromNoBytes(t *testing.T) {
	for _, s := range someTexts() {
		if got, sum := crc.More(0, s), byWords(s); got != sum {
			t.Errorf("More(0, %q) = %x, want %x", s, got, sum)
		}
	}
}

// The four bytes whose sum is a number: its steps undone, which can be done
// since the highest bit tells whether a step xored.
func bytesOf(sum uint32) string {
	n := sum ^ 0xFFFFFFFF
	for range 32 {
		if n>>31 == 1 {
			n = (n^0xEDB88320)<<1 | 1
		} else {
			n <<= 1
		}
	}
	n ^= 0xFFFFFFFF
	return string([]byte{byte(n), byte(n >> 8), byte(n >> 16), byte(n >> 24)})
}

func TestMoreOfAnyNumber(t *testing.T) {
	for _, sum := range someSums() {
		ahead := bytesOf(sum)
		if got := crc.Of(ahead); got != sum {
			t.Errorf("Of(%q) = %x, want %x", ahead, got, sum)
		}
		for _, s := range someTexts() {
			if got, sum := crc.More(sum, s), byWords(ahead+s); got != sum {
				t.Errorf("More behind %q of %q = %x, want %x", ahead, s, got, sum)
			}
		}
	}
}

func TestTail(t *testing.T) {
	for sum, tail := range map[uint32]string{
		0:              "\x00\x00\x00\x00",
		1:              "\x01\x00\x00\x00",
		0x100:          "\x00\x01\x00\x00",
		0x10000:        "\x00\x00\x01\x00",
		0x1000000:      "\x00\x00\x00\x01",
		0x80:           "\x80\x00\x00\x00",
		0x80000000:     "\x00\x00\x00\x80",
		0x01020304:     "\x04\x03\x02\x01",
		ofNine:         "\x26\x39\xf4\xcb",
		math.MaxUint32: "\xff\xff\xff\xff",
	} {
		if got := crc.Tail(sum); got != tail {
			t.Errorf("Tail(%x) = %q, want %q", sum, got, tail)
		}
	}
}

func TestEndsWithItsTail(t *testing.T) {
	for _, s := range someTexts() {
		if !crc.Ends(s + crc.Tail(byWords(s))) {
			t.Errorf("Ends of %q and its tail is false", s)
		}
	}
}

func TestEndsOfFewBytes(t *testing.T) {
	for _, s := range []string{"", "\x00", "\x00\x00", "\x00\x00\x00", "abc", "\xff\xff\xff"} {
		if crc.Ends(s) {
			t.Errorf("Ends(%q) is true", s)
		}
	}
	if !crc.Ends("\x00\x00\x00\x00") {
		t.Error("Ends of nothing's tail is false")
	}
	for _, s := range []string{"\x00\x00\x00\x01", "\x01\x00\x00\x00", "abcd", "\xff\xff\xff\xff"} {
		if crc.Ends(s) {
			t.Errorf("Ends(%q) is true", s)
		}
	}
}

func TestEndsWithAnotherTail(t *testing.T) {
	for _, s := range someTexts() {
		sum := byWords(s)
		high := []byte(crc.Tail(sum))
		slices.Reverse(high)
		if string(high) != crc.Tail(sum) && crc.Ends(s+string(high)) {
			t.Errorf("Ends of %q and its tail, the highest first, is true", s)
		}
		for bit := range 32 {
			if crc.Ends(s + crc.Tail(sum^1<<bit)) {
				t.Errorf("Ends of %q and a tail whose bit %d is turned is true", s, bit)
			}
		}
	}
}

func TestEndsOfTornBytes(t *testing.T) {
	whole := "a record of some bytes"
	whole += crc.Tail(byWords(whole))
	if !crc.Ends(whole) {
		t.Error("Ends of the whole is false")
	}
	for n := range len(whole) {
		if crc.Ends(whole[:n]) {
			t.Errorf("Ends of the first %d bytes is true", n)
		}
		if n > 0 && crc.Ends(whole[n:]) {
			t.Errorf("Ends behind the first %d bytes is true", n)
		}
	}
	if crc.Ends(whole+"\x00") || crc.Ends("\x00"+whole) {
		t.Error("Ends of the whole and a byte is true")
	}
}

// P3.2

func TestParting(t *testing.T) {
	s := someBytes(60)
	sum := byWords(s)
	for i := 0; i <= len(s); i++ {
		if got := crc.More(crc.Of(s[:i]), s[i:]); got != sum {
			t.Errorf("More behind %d bytes = %x, want %x", i, got, sum)
		}
		for j := i; j <= len(s); j++ {
			if got := crc.Of(s[:i], s[i:j], s[j:]); got != sum {
				t.Errorf("Of parted at %d and %d = %x, want %x", i, j, got, sum)
			}
		}
	}
}

func TestPartingByteByByte(t *testing.T) {
	s := someBytes(500)
	var sum uint32
	var parts []string
	for i := range len(s) {
		sum = crc.More(sum, s[i:i+1])
		parts = append(parts, s[i:i+1], "")
	}
	if sum != byWords(s) || crc.Of(parts...) != byWords(s) {
		t.Errorf("byte by byte %x and %x, want %x", sum, crc.Of(parts...), byWords(s))
	}
}

func TestBytesThatDifferWithin32Bits(t *testing.T) {
	r := rand.New(rand.NewSource(32))
	for _, s := range []string{strings.Repeat("\x00", 24), strings.Repeat("\xff", 24), someBytes(24)} {
		sum := crc.Of(s)
		for from := 0; from <= 8*len(s)-32; from++ {
			patterns := []uint32{1, 1 << 31, 1<<31 | 1, math.MaxUint32, 0xEDB88320, 0x04C11DB7, 0xDB710641}
			for range 20 {
				patterns = append(patterns, max(r.Uint32(), 1))
			}
			for _, pattern := range patterns {
				if other := turned(s, from, pattern); crc.Of(other) == sum {
					t.Errorf("%q and %q have one sum", s, other)
				}
			}
		}
	}
}

// How many of the numbers are no xor of others among them.
func independent(list []uint32) int {
	var byTop [32]uint32
	count := 0
	for _, n := range list {
		for n != 0 {
			top := bits.Len32(n) - 1
			if byTop[top] == 0 {
				byTop[top] = n
				count++
				break
			}
			n ^= byTop[top]
		}
	}
	return count
}

// What turned bits do to a sum is the xor of what each one of them does, so
// that 32 of these that are independent tell every pattern, not some alone.
func TestEveryPatternOf32BitsIsTold(t *testing.T) {
	s := someBytes(24)
	sum := crc.Of(s)
	for from := 0; from <= 8*len(s)-32; from++ {
		var changes []uint32
		for bit := range 32 {
			changes = append(changes, crc.Of(turned(s, from, 1<<bit))^sum)
		}
		if n := independent(changes); n != 32 {
			t.Errorf("from bit %d on only %d of 32 changes are independent", from, n)
		}
	}
}

// The least that isn't told: 33 bits that stand together, the step's own.
func TestBytesThatDifferWithin33Bits(t *testing.T) {
	s := someBytes(12)
	other := turned(turned(s, 8, 0xDB710641), 40, 1)
	if crc.Of(other) != crc.Of(s) {
		t.Errorf("%q and %q have unlike sums", s, other)
	}
}

func TestEveryTextBehindItsTailHasOneSum(t *testing.T) {
	for _, s := range someTexts() {
		sum := crc.Of(s)
		if got := crc.Of(s, crc.Tail(sum)); got != behindTail {
			t.Errorf("Of(%q and its tail) = %x, want %x", s, got, behindTail)
		}
	}
	for _, sum := range someSums() {
		if got := crc.More(sum, crc.Tail(sum)); got != behindTail {
			t.Errorf("More(%x, its tail) = %x, want %x", sum, got, behindTail)
		}
	}
}

// P1, and all of the above at any arguments.

func FuzzAll(f *testing.F) {
	for _, s := range someTexts() {
		f.Add(s, uint32(len(s)), 2)
	}
	f.Add("123456789\x26\x39\xf4\xcb", uint32(math.MaxUint32), 9)
	f.Fuzz(func(t *testing.T, s string, sum uint32, at int) {
		at = min(max(at, 0), len(s))
		want := crc32.ChecksumIEEE([]byte(s))
		if crc.Of(s) != want || crc.Of(s[:at], s[at:]) != want || crc.More(crc.Of(s[:at]), s[at:]) != want {
			t.Errorf("sums of %q parted at %d are not %x", s, at, want)
		}
		if got, want := crc.More(sum, s), crc32.Update(sum, crc32.IEEETable, []byte(s)); got != want {
			t.Errorf("More(%x, %q) = %x, want %x", sum, s, got, want)
		}
		ends := len(s) >= 4 && crc.Tail(crc.Of(s[:max(len(s)-4, 0)])) == s[max(len(s)-4, 0):]
		if crc.Ends(s) != ends || !crc.Ends(s+crc.Tail(want)) {
			t.Errorf("Ends(%q) = %v", s, crc.Ends(s))
		}
	})
}
