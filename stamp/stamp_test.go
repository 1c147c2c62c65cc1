package stamp_test

import (
	"bytes"
	"crypto/sha256"
	"encoding/hex"
	"slices"
	"strings"
	"testing"

	"manciple/api"
	"manciple/hexa"
	"manciple/sha"
	"manciple/stamp"
)

const (
	digitsOfNothing = "e3b0c44298fc1c149afbf4c8996fb92427ae41e4649b934ca495991b7852b855"
	digitsOfABC     = "ba7816bf8f01cfea414140de5dae2223b00361a396177a9cb410ff61f20015ad"
)

func filled(b byte) api.Digest {
	var d api.Digest
	for i := range d {
		d[i] = b
	}
	return d
}

// with is d with one byte of it another one.
func with(d api.Digest, at int, b byte) api.Digest {
	d[at] = b
	return d
}

// someDigests has the least and the greatest one, those in which one byte
// alone is another one, at every place, and some of bytes; no two are alike.
func someDigests() []api.Digest {
	list := []api.Digest{filled(0), filled(0xff), filled(0x7f), filled(0x80), filled(0xa5)}
	for at := range len(api.Digest{}) {
		list = append(list, with(filled(0), at, 1), with(filled(0), at, 0x80), with(filled(0xff), at, 0x7f), with(filled(0xff), at, 0xfe))
	}
	for _, s := range someTexts() {
		list = append(list, sha256.Sum256([]byte(s)))
	}
	return list
}

func someTexts() []string {
	return []string{"", "a", "abc", "\x00", "\xff\xfe", "manciple", strings.Repeat("0123456789", 20), strings.Repeat("b", 55), strings.Repeat("b", 56), strings.Repeat("b", 64)}
}

// wrongDigits are those of no digest, whatever stands ahead of them.
func wrongDigits() []string {
	list := []string{
		"",
		"0",
		digitsOfABC[:62],
		digitsOfABC[:63],
		digitsOfABC[1:],
		digitsOfABC + "0",
		digitsOfABC + "00",
		"0" + digitsOfABC,
		"00" + digitsOfABC,
		digitsOfABC + digitsOfABC,
		digitsOfABC + "\n",
		digitsOfABC + " ",
		" " + digitsOfABC,
		" " + digitsOfABC[1:],
		digitsOfABC[:63] + " ",
		digitsOfABC[:63] + "\x00",
		strings.ToUpper(digitsOfABC),
		"0x" + digitsOfABC[2:],
		"-" + digitsOfABC[1:],
		"+" + digitsOfABC[1:],
		strings.Repeat("0", 1<<16),
	}
	for at := range len(digitsOfABC) {
		for _, stray := range []string{"A", "F", "g", "/", ":", "`", "@", "\x00", "\xff"} {
			list = append(list, digitsOfABC[:at]+stray+digitsOfABC[at+1:])
		}
	}
	return list
}

// wrongHeads are neither that of a text nor that of a name.
func wrongHeads() []string {
	return []string{
		"", ":", "-", "sha256", "sha256::", "sha256:\n", "sha256: ", " sha256:", "xsha256:", "sha256-", "sha-256:", "ha256:", "SHA256:", "Sha256:", "shA256:",
		"sha512:", "sha1:", "sha256:sha256:", "sha256:blob-", "blob", "blob:", "blob--", "blob- ", " blob-", "xblob-", "lob-", "BLOB-", "Blob-", "blob_",
		"blob-blob-", "blob-sha256:", "blobs-", "temp-", "sha256%3A", "\x00",
	}
}

func mustBeNone(t *testing.T, s string) {
	t.Helper()
	if d, e := stamp.Parse(s); d != (api.Digest{}) || e != api.ErrForm {
		t.Errorf("Parse(%q) = %x, %v, want zero, ErrForm", s, d, e)
	}
	if d, ok := stamp.Named(s); d != (api.Digest{}) || ok {
		t.Errorf("Named(%q) = %x, %v, want zero, false", s, d, ok)
	}
}

// P4.1

func TestOf(t *testing.T) {
	for _, s := range someTexts() {
		got := stamp.Of(s)
		if got != sha.Of(s) || got != sha256.Sum256([]byte(s)) {
			t.Errorf("Of(%q) = %x", s, got)
		}
	}
}

func TestPrintOfKnownDigests(t *testing.T) {
	for s, want := range map[string]string{
		"":    "sha256:" + digitsOfNothing,
		"abc": "sha256:" + digitsOfABC,
	} {
		if got := stamp.Print(stamp.Of(s)); got != want {
			t.Errorf("Print(Of(%q)) = %q, want %q", s, got, want)
		}
	}
	if got, want := stamp.Print(api.Digest{}), "sha256:"+strings.Repeat("0", 64); got != want {
		t.Errorf("Print of zero = %q", got)
	}
	if got, want := stamp.Print(api.Digest{0: 0x0a, 31: 0xf5}), "sha256:0a"+strings.Repeat("0", 60)+"f5"; got != want {
		t.Errorf("Print = %q, want %q", got, want)
	}
}

func TestPrintIsReadAgain(t *testing.T) {
	for _, d := range someDigests() {
		want := "sha256:" + hex.EncodeToString(d[:])
		if got := stamp.Print(d); got != want || got != "sha256:"+hexa.Hex(string(d[:])) {
			t.Errorf("Print(%x) = %q", d, got)
		}
		if got, e := stamp.Parse(want); got != d || e != api.OK {
			t.Errorf("Parse(%q) = %x, %v", want, got, e)
		}
	}
}

func TestParseOfNoText(t *testing.T) {
	for _, digits := range wrongDigits() {
		mustBeNone(t, "sha256:"+digits)
	}
	for _, head := range wrongHeads() {
		mustBeNone(t, head+digitsOfABC)
	}
	for _, d := range someDigests() {
		if got, e := stamp.Parse(stamp.File(d)); got != (api.Digest{}) || e != api.ErrForm {
			t.Errorf("Parse(%q) = %x, %v", stamp.File(d), got, e)
		}
	}
}

// P4.2

func TestFileOfKnownDigests(t *testing.T) {
	for s, want := range map[string]string{
		"":    "blob-" + digitsOfNothing,
		"abc": "blob-" + digitsOfABC,
	} {
		if got := stamp.File(stamp.Of(s)); got != want {
			t.Errorf("File(Of(%q)) = %q, want %q", s, got, want)
		}
	}
	if got, want := stamp.File(api.Digest{}), "blob-"+strings.Repeat("0", 64); got != want {
		t.Errorf("File of zero = %q", got)
	}
}

func TestFileIsReadAgain(t *testing.T) {
	for _, d := range someDigests() {
		want := "blob-" + hex.EncodeToString(d[:])
		if got := stamp.File(d); got != want || got != "blob-"+hexa.Hex(string(d[:])) {
			t.Errorf("File(%x) = %q", d, got)
		}
		if got, ok := stamp.Named(want); got != d || !ok {
			t.Errorf("Named(%q) = %x, %v", want, got, ok)
		}
	}
}

func TestFileIsAFilesName(t *testing.T) {
	if n := len(stamp.File(filled(0xff))); n > api.MaxFile {
		t.Errorf("a name has %d bytes, more than %d", n, api.MaxFile)
	}
}

func TestNamedOfNoName(t *testing.T) {
	for _, digits := range wrongDigits() {
		mustBeNone(t, "blob-"+digits)
	}
	for _, d := range someDigests() {
		if got, ok := stamp.Named(stamp.Print(d)); got != (api.Digest{}) || ok {
			t.Errorf("Named(%q) = %x, %v", stamp.Print(d), got, ok)
		}
	}
}

func TestLessOfOrdinaryDigests(t *testing.T) {
	for _, c := range []struct {
		a, b api.Digest
		want bool
	}{
		{api.Digest{}, api.Digest{}, false},
		{api.Digest{}, api.Digest{1}, true},
		{api.Digest{1}, api.Digest{}, false},
		{api.Digest{0, 9}, api.Digest{1, 0}, true},
		{api.Digest{1, 0}, api.Digest{0, 9}, false},
		{api.Digest{1, 1}, api.Digest{1, 0}, false},
		{api.Digest{1, 0, 9}, api.Digest{1, 1, 0}, true},
		{api.Digest{31: 1}, api.Digest{31: 2}, true},
		{api.Digest{31: 2}, api.Digest{31: 1}, false},
		{api.Digest{0: 0x7f}, api.Digest{0: 0x80}, true},
		{api.Digest{0: 0xff}, api.Digest{0: 0x01}, false},
		{filled(0xff), filled(0xff), false},
		{filled(0), filled(0xff), true},
		{filled(0xff), filled(0), false},
	} {
		if got := stamp.Less(c.a, c.b); got != c.want {
			t.Errorf("Less(%x, %x) = %v", c.a, c.b, got)
		}
	}
}

func TestLessAtEveryPlace(t *testing.T) {
	base := filled(0x55)
	for at := range len(base) {
		for b := range 256 {
			other := with(base, at, byte(b))
			if got := stamp.Less(base, other); got != (0x55 < b) {
				t.Errorf("Less at byte %d, 55 and %x = %v", at, b, got)
			}
			if got := stamp.Less(other, base); got != (b < 0x55) {
				t.Errorf("Less at byte %d, %x and 55 = %v", at, b, got)
			}
		}
	}
}

func TestFirstByteThatDiffersRules(t *testing.T) {
	for first := range len(api.Digest{}) {
		a, b := filled(3), filled(3)
		a[first], b[first] = 1, 2
		for at := first + 1; at < len(a); at++ {
			a[at], b[at] = 0xff, 0
		}
		if !stamp.Less(a, b) || stamp.Less(b, a) {
			t.Errorf("byte %d doesn't rule over those behind it", first)
		}
	}
}

func TestLessIsTheOrderOfBytesTextsAndNames(t *testing.T) {
	list := someDigests()
	for _, a := range list {
		for _, b := range list {
			want := bytes.Compare(a[:], b[:]) < 0
			if got := stamp.Less(a, b); got != want {
				t.Errorf("Less(%x, %x) = %v", a, b, got)
			}
			if (stamp.Print(a) < stamp.Print(b)) != want || (stamp.File(a) < stamp.File(b)) != want {
				t.Errorf("texts or names of %x and %x stand otherwise", a, b)
			}
		}
	}
}

func TestLessSorts(t *testing.T) {
	list := someDigests()
	slices.SortFunc(list, func(a, b api.Digest) int {
		switch {
		case stamp.Less(a, b):
			return -1
		case stamp.Less(b, a):
			return 1
		}
		return 0
	})
	for i := 1; i < len(list); i++ {
		if bytes.Compare(list[i-1][:], list[i][:]) >= 0 {
			t.Errorf("%x stands ahead of %x", list[i-1], list[i])
		}
	}
}

// P4.3

func TestUnlikeDigestsHaveUnlikeTextsAndNames(t *testing.T) {
	of := map[string]api.Digest{}
	for _, d := range someDigests() {
		for _, s := range []string{stamp.Print(d), stamp.File(d)} {
			if other, ok := of[s]; ok {
				t.Errorf("%x and %x are both %q", d, other, s)
			}
			of[s] = d
		}
	}
}

// otherInOneByte has s with each of its bytes another one, in all ways.
func otherInOneByte(s string) []string {
	var list []string
	for at := range len(s) {
		for b := range 256 {
			if byte(b) != s[at] {
				list = append(list, s[:at]+string([]byte{byte(b)})+s[at+1:])
			}
		}
	}
	return list
}

// Of those that differ from one that is read in one byte, the ones that have
// another digit are read, too; all else about them is none.
const readOfOthers = 64 * 15

func TestTextThatIsReadWouldHaveBeenWritten(t *testing.T) {
	d := stamp.Of("abc")
	read := 0
	for _, s := range otherInOneByte(stamp.Print(d)) {
		got, e := stamp.Parse(s)
		if e != api.OK {
			continue
		}
		read++
		if got == d || stamp.Print(got) != s {
			t.Errorf("Parse(%q) = %x", s, got)
		}
	}
	if read != readOfOthers {
		t.Errorf("%d texts were read, want %d", read, readOfOthers)
	}
}

func TestNameThatIsReadWouldHaveBeenWritten(t *testing.T) {
	d := stamp.Of("abc")
	read := 0
	for _, s := range otherInOneByte(stamp.File(d)) {
		got, ok := stamp.Named(s)
		if !ok {
			continue
		}
		read++
		if got == d || stamp.File(got) != s {
			t.Errorf("Named(%q) = %x", s, got)
		}
	}
	if read != readOfOthers {
		t.Errorf("%d names were read, want %d", read, readOfOthers)
	}
}

func TestEveryBeginningAndEndOfATextIsNone(t *testing.T) {
	for _, s := range []string{stamp.Print(stamp.Of("abc")), stamp.File(stamp.Of("abc"))} {
		for at := range len(s) {
			mustBeNone(t, s[:at])
			if at > 0 {
				mustBeNone(t, s[at:])
			}
		}
	}
}

// Arguments are the caller's own, and answers too (rule 3).

func TestArgumentsAndAnswersAreApart(t *testing.T) {
	d := stamp.Of("abc")
	before := d
	text, name := stamp.Print(d), stamp.File(d)
	stamp.Less(d, api.Digest{})
	if d != before {
		t.Error("a digest that was handed in was changed")
	}
	read, _ := stamp.Parse(text)
	read[0]++
	if again, _ := stamp.Parse(text); again != before {
		t.Errorf("Parse(%q) = %x behind a change of its answer", text, again)
	}
	found, _ := stamp.Named(name)
	found[31]++
	if again, _ := stamp.Named(name); again != before {
		t.Errorf("Named(%q) = %x behind a change of its answer", name, again)
	}
}

// The chapter's example.

func TestExample(t *testing.T) {
	if got := stamp.Print(sha.Of()); got != "sha256:e3b0c44298fc1c149afbf4c8996fb92427ae41e4649b934ca495991b7852b855" {
		t.Errorf("Print of the digest of nothing = %q", got)
	}
}

// P1, and all of the above at any arguments.

func FuzzAll(f *testing.F) {
	for _, s := range someTexts() {
		f.Add(s, "x"+s)
		d := stamp.Of(s)
		f.Add(stamp.Print(d), stamp.File(d))
	}
	f.Fuzz(func(t *testing.T, s, other string) {
		var a, b api.Digest
		copy(a[:], s)
		copy(b[:], other)
		if stamp.Less(a, b) != (bytes.Compare(a[:], b[:]) < 0) {
			t.Errorf("Less(%x, %x) = %v", a, b, stamp.Less(a, b))
		}
		if stamp.Of(s) != sha256.Sum256([]byte(s)) {
			t.Errorf("Of(%q) = %x", s, stamp.Of(s))
		}
		if d, e := stamp.Parse(stamp.Print(a)); d != a || e != api.OK {
			t.Errorf("Parse(Print(%x)) = %x, %v", a, d, e)
		}
		if d, ok := stamp.Named(stamp.File(a)); d != a || !ok {
			t.Errorf("Named(File(%x)) = %x, %v", a, d, ok)
		}
		if d, e := stamp.Parse(s); e == api.OK && stamp.Print(d) != s || e != api.OK && (e != api.ErrForm || d != (api.Digest{})) {
			t.Errorf("Parse(%q) = %x, %v", s, d, e)
		}
		if d, ok := stamp.Named(s); ok && stamp.File(d) != s || !ok && d != (api.Digest{}) {
			t.Errorf("Named(%q) = %x, %v", s, d, ok)
		}
	})
}
