package sha_test

import (
	"crypto/sha256"
	"encoding/hex"
	"math/big"
	"math/rand"
	"slices"
	"strings"
	"testing"

	"manciple/api"
	"manciple/sha"
)

const (
	ofNothing = "e3b0c44298fc1c149afbf4c8996fb92427ae41e4649b934ca495991b7852b855"
	ofABC     = "ba7816bf8f01cfea414140de5dae2223b00361a396177a9cb410ff61f20015ad"
)

func text(d api.Digest) string { return hex.EncodeToString(d[:]) }

func want(s string) api.Digest { return sha256.Sum256([]byte(s)) }

// Bytes of which no two blocks are the same.
func someBytes(n int) string {
	b := make([]byte, n)
	rand.New(rand.NewSource(int64(n))).Read(b)
	return string(b)
}

func written(parts ...string) *sha.Sha {
	h := sha.New()
	for _, s := range parts {
		h.Write(s)
	}
	return h
}

// The lengths around which the last block is another one.
func edges() []int {
	var list []int
	for _, n := range []int{0, 55, 56, 63, 64, 119, 120, 127, 128, 183, 184, 191, 192, 256, 4096, 8192} {
		list = append(list, max(n-1, 0), n, n+1)
	}
	return list
}

// The chapter's examples.

func TestExamples(t *testing.T) {
	if d := sha.Of("abc"); !strings.HasPrefix(text(d), "ba7816bf") {
		t.Errorf("Of(abc) = %s", text(d))
	}
	if d := sha.Of(); !strings.HasPrefix(text(d), "e3b0c442") {
		t.Errorf("Of() = %s", text(d))
	}
}

// P2.1

func TestOfKnownBytes(t *testing.T) {
	for s, digest := range map[string]string{
		"":    ofNothing,
		"abc": ofABC,
		"a":   "ca978112ca1bbdcafac231b39a23dc4da786eff8147c4e72b9807785afee48bb",
		"abcdbcdecdefdefgefghfghighijhijkijkljklmklmnlmnomnopnopq":                                                         "248d6a61d20638b8e5c026930c3e6039a33ce45964ff2167f6ecedd419db06c1",
		"abcdefghbcdefghicdefghijdefghijkefghijklfghijklmghijklmnhijklmnoijklmnopjklmnopqklmnopqrlmnopqrsmnopqrstnopqrstu": "cf5b16a778af8380036ce59e7b0492370b249b11e8f07a51afac45037afee9d1",
		"The quick brown fox jumps over the lazy dog":                                                                      "d7a8fbb307d7809469ca9abcb0082e4f8d5651e46d3cdb762d02d0bf37c9e592",
		"\x00":                       "6e340b9cffb37a989ca544e6bb780a2c78901d3fb33738768511a30617afa01d",
		strings.Repeat("a", 1000000): "cdc76e5c9914fb9281a1c7e284d73e67f1809a48a497200e046d39ccc7112cd0",
	} {
		if got := text(sha.Of(s)); got != digest {
			t.Errorf("Of of %d bytes = %s, want %s", len(s), got, digest)
		}
		if got := text(written(s).Sum()); got != digest {
			t.Errorf("Sum of %d bytes = %s, want %s", len(s), got, digest)
		}
	}
}

func TestOfAllShortLengths(t *testing.T) {
	for n := range 600 {
		for _, s := range []string{someBytes(n), strings.Repeat("\x00", n), strings.Repeat("\xff", n), strings.Repeat("\x80", n)} {
			if got := sha.Of(s); got != want(s) {
				t.Fatalf("Of of %d bytes = %s", n, text(got))
			}
		}
	}
}

func TestOfEachSingleByte(t *testing.T) {
	for b := range 256 {
		s := string([]byte{byte(b)})
		if sha.Of(s) != want(s) {
			t.Errorf("byte %d", b)
		}
	}
}

func TestEachBitOfABlockCounts(t *testing.T) {
	for i := range 8 * 64 {
		b := make([]byte, 64)
		b[i/8] = 1 << (i % 8)
		if sha.Of(string(b)) != want(string(b)) {
			t.Errorf("bit %d", i)
		}
	}
}

func TestOfAGreatestBlob(t *testing.T) {
	for _, n := range []int{api.MaxBlob - 1, api.MaxBlob, api.MaxBlob + 1} {
		s := someBytes(n)
		h := written(s)
		if h.Sum() != want(s) || h.Len() != n {
			t.Errorf("%d bytes: Len %d", n, h.Len())
		}
	}
}

// 8 times the number of bytes takes more than 32 bits from 2^29 on.
func TestSizeOfMoreThan32Bits(t *testing.T) {
	if testing.Short() {
		t.Skip("takes seconds")
	}
	const piece, times = 1 << 20, 1<<9 + 1
	s := strings.Repeat("z", piece)
	h, theirs := sha.New(), sha256.New()
	for range times {
		h.Write(s)
		theirs.Write([]byte(s))
	}
	if d := h.Sum(); !slices.Equal(d[:], theirs.Sum(nil)) || h.Len() != piece*times {
		t.Errorf("Len %d, %s", h.Len(), text(d))
	}
}

func TestNewIsOfNothing(t *testing.T) {
	h := sha.New()
	if h == nil || h.Len() != 0 || text(h.Sum()) != ofNothing {
		t.Errorf("New: %v", h)
	}
	if other := sha.New(); other == h {
		t.Error("two of New are one")
	}
	h.Write("abc")
	if d := sha.New().Sum(); text(d) != ofNothing {
		t.Errorf("New behind a Write of another one: %s", text(d))
	}
}

func TestWriteOfNothing(t *testing.T) {
	for _, n := range edges() {
		s := someBytes(n)
		h := written("", s, "", "")
		if h.Sum() != want(s) || h.Len() != n {
			t.Errorf("%d bytes: Len %d", n, h.Len())
		}
	}
}

func TestSumLetsItGoOn(t *testing.T) {
	for _, n := range edges() {
		for _, more := range []int{0, 1, 7, 8, 9, 55, 64, 65, 200} {
			s := someBytes(n + more)
			h := written(s[:n])
			for range 3 {
				if h.Sum() != want(s[:n]) || h.Len() != n {
					t.Fatalf("%d bytes: Sum again, Len %d", n, h.Len())
				}
			}
			h.Write(s[n:])
			if h.Sum() != want(s) || h.Len() != n+more {
				t.Fatalf("%d and %d bytes: Len %d", n, more, h.Len())
			}
		}
	}
}

func TestSumBehindEachByte(t *testing.T) {
	s := someBytes(300)
	h := sha.New()
	for i := range len(s) {
		h.Write(s[i : i+1])
		if h.Sum() != want(s[:i+1]) || h.Len() != i+1 {
			t.Fatalf("behind byte %d: Len %d", i, h.Len())
		}
	}
}

func TestLen(t *testing.T) {
	h := sha.New()
	total := 0
	for _, n := range edges() {
		h.Write(strings.Repeat("x", n))
		total += n
		if h.Len() != total {
			t.Fatalf("Len %d, want %d", h.Len(), total)
		}
	}
	if n := written("\u00e9\u4e16").Len(); n != 5 {
		t.Errorf("Len of two runes in five bytes = %d", n)
	}
}

func TestCopyGoesOnAlone(t *testing.T) {
	for _, n := range edges() {
		s := someBytes(n)
		h := written(s)
		c := h.Copy()
		if c == h {
			t.Fatal("Copy answers the same one")
		}
		if c.Sum() != want(s) || c.Len() != n {
			t.Fatalf("Copy of %d bytes: Len %d", n, c.Len())
		}
		h.Write("left and more")
		if c.Sum() != want(s) || c.Len() != n {
			t.Fatalf("%d bytes: what is written into one is in its copy", n)
		}
		c.Write("right")
		if h.Sum() != want(s+"left and more") || h.Len() != n+13 {
			t.Fatalf("%d bytes: what is written into a copy is in the one", n)
		}
		if c.Sum() != want(s+"right") || c.Len() != n+5 {
			t.Fatalf("%d bytes: a copy doesn't go on", n)
		}
	}
}

func TestCopyOfACopy(t *testing.T) {
	h := written("a")
	b := h.Copy()
	b.Write("b")
	c := b.Copy()
	c.Write("c")
	for _, one := range []struct {
		h *sha.Sha
		s string
	}{{h, "a"}, {b, "ab"}, {c, "abc"}} {
		if one.h.Sum() != want(one.s) || one.h.Len() != len(one.s) {
			t.Errorf("%q: Len %d", one.s, one.h.Len())
		}
	}
}

func TestCopyOutlastsABlock(t *testing.T) {
	s := someBytes(1000)
	h := written(s[:100])
	c := h.Copy()
	h.Write(someBytes(777))
	c.Write(s[100:])
	if c.Sum() != want(s) {
		t.Error("a copy's block is its first one's")
	}
}

func TestOfPartsIsOfAllTheirBytes(t *testing.T) {
	for _, parts := range [][]string{
		nil, {}, {""}, {"", "", ""}, {"abc"}, {"a", "b", "c"}, {"ab", "", "c"}, {"", "abc"}, {"abc", ""},
		{someBytes(64), someBytes(63)}, {someBytes(63), someBytes(64), "x"}, {someBytes(1000), "", someBytes(55)},
	} {
		whole := strings.Join(parts, "")
		if got := sha.Of(parts...); got != want(whole) {
			t.Errorf("Of of %d parts = %s", len(parts), text(got))
		}
	}
}

func TestOfHangsOnItsPartsAlone(t *testing.T) {
	first := sha.Of("abc")
	sha.Of("other bytes")
	written("and more").Sum()
	if second := sha.Of("abc"); first != second || text(second) != ofABC {
		t.Errorf("Of(abc) = %s, then %s", text(first), text(second))
	}
}

func TestOfLeavesItsPartsAlone(t *testing.T) {
	room := []string{"a", "b", "spare", "room"}
	sha.Of(room[:2]...)
	if !slices.Equal(room, []string{"a", "b", "spare", "room"}) {
		t.Errorf("parts are %q", room)
	}
}

func TestDigestsAreNewMemory(t *testing.T) {
	h := written("abc")
	d := h.Sum()
	d[0] ^= 255
	if text(h.Sum()) != ofABC {
		t.Error("a digest that is changed changes the next one")
	}
}

func TestNil(t *testing.T) {
	var h *sha.Sha
	h.Write("abc")
	h.Write("")
	if h != nil || h.Len() != 0 || text(h.Sum()) != ofNothing || h.Copy() != nil {
		t.Errorf("nil: Len %d, Sum %s, Copy %v", h.Len(), text(h.Sum()), h.Copy())
	}
}

// P2.2

func TestPartedInTwo(t *testing.T) {
	s := someBytes(260)
	for n := range len(s) + 1 {
		digest := want(s[:n])
		for at := range n + 1 {
			if sha.Of(s[:at], s[at:n]) != digest || written(s[:at], s[at:n]).Sum() != digest {
				t.Fatalf("%d bytes, parted at %d", n, at)
			}
		}
	}
}

func TestPartedInPiecesOfOneSize(t *testing.T) {
	s := someBytes(1500)
	digest := want(s)
	for size := 1; size <= 300; size++ {
		var parts []string
		for b := range slices.Chunk([]byte(s), size) {
			parts = append(parts, string(b))
		}
		h := written(parts...)
		if h.Sum() != digest || h.Len() != len(s) || sha.Of(parts...) != digest {
			t.Fatalf("pieces of %d bytes: Len %d", size, h.Len())
		}
	}
}

func TestPartedAnyhow(t *testing.T) {
	r := rand.New(rand.NewSource(2))
	for range 500 {
		s := someBytes(r.Intn(2000))
		h := sha.New()
		var parts []string
		for rest := s; rest != ""; {
			n := r.Intn(min(len(rest), 1+r.Intn(200)) + 1)
			parts = append(parts, rest[:n])
			h.Write(rest[:n])
			if r.Intn(4) == 0 {
				h.Sum()
			}
			if r.Intn(4) == 0 {
				h = h.Copy()
			}
			rest = rest[n:]
		}
		if h.Sum() != want(s) || h.Len() != len(s) || sha.Of(parts...) != want(s) {
			t.Fatalf("%d bytes in %d parts: Len %d", len(s), len(parts), h.Len())
		}
	}
}

// The document's own words, with its roots worked out: no table is shared with the package or the library.

func root(of, degree int64) uint32 {
	scaled := new(big.Int).Lsh(big.NewInt(of), uint(32*degree))
	low, high := big.NewInt(0), new(big.Int).Lsh(big.NewInt(1), 40)
	for new(big.Int).Sub(high, low).Cmp(big.NewInt(1)) > 0 {
		mid := new(big.Int).Add(low, high)
		mid.Rsh(mid, 1)
		if new(big.Int).Exp(mid, big.NewInt(degree), nil).Cmp(scaled) <= 0 {
			low = mid
		} else {
			high = mid
		}
	}
	return uint32(low.Uint64())
}

func primes(n int) []int64 {
	var list []int64
	for p := int64(2); len(list) < n; p++ {
		if !slices.ContainsFunc(list, func(q int64) bool { return p%q == 0 }) {
			list = append(list, p)
		}
	}
	return list
}

func right(x uint32, by int) uint32 { return x>>by | x<<(32-by) }

func byTheWords(s string) api.Digest {
	var state, keys []uint32
	for _, p := range primes(8) {
		state = append(state, root(p, 2))
	}
	for _, p := range primes(64) {
		keys = append(keys, root(p, 3))
	}
	b := append([]byte(s), 0x80)
	for len(b)%64 != 56 {
		b = append(b, 0)
	}
	for i := range 8 {
		b = append(b, byte(8*len(s)>>(56-8*i)))
	}
	for block := range slices.Chunk(b, 64) {
		var w []uint32
		for t := range 16 {
			w = append(w, uint32(block[4*t])<<24+uint32(block[4*t+1])<<16+uint32(block[4*t+2])<<8+uint32(block[4*t+3]))
		}
		for t := 16; t < 64; t++ {
			x, y := w[t-15], w[t-2]
			s0, s1 := right(x, 7)^right(x, 18)^x>>3, right(y, 17)^right(y, 19)^y>>10
			w = append(w, s1+w[t-7]+s0+w[t-16])
		}
		v := slices.Clone(state)
		for t := range 64 {
			a, e := v[0], v[4]
			t1 := v[7] + (right(e, 6) ^ right(e, 11) ^ right(e, 25)) + ((e & v[5]) ^ (^e & v[6])) + keys[t] + w[t]
			t2 := (right(a, 2) ^ right(a, 13) ^ right(a, 22)) + ((a & v[1]) ^ (a & v[2]) ^ (v[1] & v[2]))
			v = []uint32{t1 + t2, a, v[1], v[2], v[3] + t1, e, v[5], v[6]}
		}
		for i := range state {
			state[i] += v[i]
		}
	}
	var d api.Digest
	for i := range d {
		d[i] = byte(state[i/4] >> (24 - 8*(i%4)))
	}
	return d
}

func TestByTheDocumentsWords(t *testing.T) {
	for n := range 140 {
		s := someBytes(n)
		if sha.Of(s) != byTheWords(s) {
			t.Errorf("%d bytes", n)
		}
	}
}

// P1: every call ends and none panics.

func FuzzAll(f *testing.F) {
	f.Add("", 0, uint(0))
	f.Add("abc", 1, uint(1))
	f.Add(strings.Repeat("a", 64), 64, uint(63))
	f.Add(strings.Repeat("b", 119), 56, uint(7))
	f.Fuzz(func(t *testing.T, s string, at int, at2 uint) {
		first := int(uint(at) % uint(len(s)+1))
		second := first + int(at2%uint(len(s)-first+1))
		h := written(s[:first])
		c := h.Copy()
		h.Write(s[first:second])
		h.Sum()
		h.Write(s[second:])
		if h.Sum() != want(s) || h.Len() != len(s) || sha.Of(s[:second], s[second:]) != want(s) {
			t.Errorf("%q, parted at %d and %d", s, first, second)
		}
		if c.Sum() != want(s[:first]) || c.Len() != first {
			t.Errorf("the copy of %q", s[:first])
		}
	})
}
