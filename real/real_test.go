package real_test

import (
	"fmt"
	"math"
	"math/big"
	"regexp"
	"slices"
	"strconv"
	"strings"
	"testing"

	"manciple/api"
	"manciple/real"
)

const (
	bitsOfNaN   = 0x7FF8000000000000
	bitsOfInf   = 0x7FF0000000000000
	bitsOfSign  = 0x8000000000000000
	bitsOfOne   = 0x3FF0000000000000
	bitsOfHalf  = 0x3FE0000000000000
	leastNormal = 0x0010000000000000
)

var (
	inf   = math.Inf(1)
	minus = math.Copysign(0, -1)
	tiny  = math.SmallestNonzeroFloat64
	great = math.MaxFloat64
)

func of(bits uint64) float64 { return math.Float64frombits(bits) }

// alike holds bits against each other: == would take the zeros for one, and
// no NaN for itself.
func alike(a, b float64) bool { return math.Float64bits(a) == math.Float64bits(b) }

func show(x float64) string { return fmt.Sprintf("%v (%016x)", x, math.Float64bits(x)) }

func mustBe(t *testing.T, what string, got, want float64) {
	t.Helper()
	if !alike(got, want) {
		t.Errorf("%s = %s, want %s", what, show(got), show(want))
	}
}

// nans are of all kinds: quiet and signalling, of both signs, with least and
// greatest payloads.
func nans() []float64 {
	var list []float64
	for _, bits := range []uint64{bitsOfNaN, bitsOfNaN + 1, bitsOfInf + 1, 0x7FF7FFFFFFFFFFFF, 0x7FFFFFFFFFFFFFFF, 0x7FF4000000000000} {
		list = append(list, of(bits), of(bits|bitsOfSign))
	}
	return list
}

// positives rise; each stands at or beside an edge of the numbers.
func positives() []float64 {
	return []float64{
		tiny, 2 * tiny, of(leastNormal - 1), of(leastNormal), of(leastNormal + 1), 1e-300, 0.001, 0.1, 0.25, math.Nextafter(0.5, 0), 0.5, math.Nextafter(0.5, 1), 0.75,
		math.Nextafter(1, 0), 1, math.Nextafter(1, 2), 1.5, 2, 3, 10, 255, 1000, 1 << 40, 1<<53 - 1, 1 << 53, 1 << 62, 1 << 63, 1e300, math.Nextafter(great, 0), great,
	}
}

// row has a number at each of its places, in their order; NaN stands first.
func row() []float64 {
	list := []float64{of(bitsOfNaN), -inf}
	up := positives()
	for i := len(up) - 1; i >= 0; i-- {
		list = append(list, -up[i])
	}
	list = append(list, minus, 0)
	list = append(list, up...)
	return append(list, inf)
}

func someNumbers() []float64 { return append(row(), nans()...) }

// rank tells a number's place by its bits alone.
func rank(x float64) uint64 {
	bits := math.Float64bits(x)
	switch {
	case bits&^bitsOfSign > bitsOfInf:
		return 0
	case bits&bitsOfSign != 0:
		return ^bits
	}
	return bits | bitsOfSign
}

// classOf tells a number's class by its bits alone.
func classOf(x float64) int {
	bits := math.Float64bits(x)
	switch size := bits &^ bitsOfSign; {
	case size > bitsOfInf:
		return 1
	case bits == bitsOfInf|bitsOfSign:
		return 2
	case bits == bitsOfSign:
		return 4
	case bits == 0:
		return 5
	case bits == bitsOfInf:
		return 7
	case bits == size:
		return 6
	}
	return 3
}

// cleanOf is a number's clean form by its bits alone.
func cleanOf(x float64) float64 {
	switch classOf(x) {
	case 1:
		return of(bitsOfNaN)
	case 4:
		return of(0)
	}
	return x
}

// scattered are bits without a pattern, the same ones at each run.
func scattered(n int) []uint64 {
	list := make([]uint64, n)
	seed := uint64(0x9E3779B97F4A7C15)
	for i := range list {
		seed ^= seed << 13
		seed ^= seed >> 7
		seed ^= seed << 17
		list[i] = seed
	}
	return list
}

// P5.1

func TestClassesAreNumbered(t *testing.T) {
	for i, class := range []int{real.NaN, real.Below, real.Negative, real.Minus, real.Zero, real.Positive, real.Above} {
		if class != i+1 {
			t.Errorf("the class at %d is %d", i, class)
		}
	}
}

func TestClass(t *testing.T) {
	for _, c := range []struct {
		x    float64
		want int
	}{
		{math.NaN(), real.NaN}, {-inf, real.Below}, {-great, real.Negative}, {-1, real.Negative}, {-tiny, real.Negative},
		{minus, real.Minus}, {0, real.Zero}, {tiny, real.Positive}, {0.5, real.Positive}, {great, real.Positive}, {inf, real.Above},
	} {
		if got := real.Class(c.x); got != c.want {
			t.Errorf("Class(%s) = %d, want %d", show(c.x), got, c.want)
		}
	}
	for _, x := range nans() {
		if got := real.Class(x); got != real.NaN {
			t.Errorf("Class(%s) = %d", show(x), got)
		}
	}
}

func TestClassOfAllExponents(t *testing.T) {
	for head := range uint64(1 << 12) {
		for _, rest := range []uint64{0, 1, 1 << 51, 1<<51 - 1, 1<<52 - 1} {
			x := of(head<<52 | rest)
			if got := real.Class(x); got != classOf(x) {
				t.Errorf("Class(%s) = %d", show(x), got)
			}
		}
	}
}

func TestLessAndSameInTheRow(t *testing.T) {
	list := row()
	for i, a := range list {
		for k, b := range list {
			if got := real.Less(a, b); got != (i < k) {
				t.Errorf("Less(%s, %s) = %v", show(a), show(b), got)
			}
			if got := real.Same(a, b); got != (i == k) {
				t.Errorf("Same(%s, %s) = %v", show(a), show(b), got)
			}
		}
	}
}

func TestAllNaNStandAtOnePlace(t *testing.T) {
	for _, a := range nans() {
		for _, b := range nans() {
			if real.Less(a, b) || !real.Same(a, b) {
				t.Errorf("%s and %s are apart", show(a), show(b))
			}
		}
		for _, b := range row()[1:] {
			if !real.Less(a, b) || real.Less(b, a) || real.Same(a, b) || real.Same(b, a) {
				t.Errorf("%s doesn't stand ahead of %s", show(a), show(b))
			}
		}
	}
}

func TestZerosAreApart(t *testing.T) {
	if !real.Less(minus, 0) || real.Less(0, minus) || real.Same(minus, 0) || real.Same(0, minus) {
		t.Error("-0 doesn't stand ahead of 0")
	}
	if !real.Same(minus, minus) || !real.Same(0, 0) || real.Less(minus, minus) || real.Less(0, 0) {
		t.Error("a zero isn't at its own place")
	}
}

func TestClean(t *testing.T) {
	for _, x := range nans() {
		mustBe(t, "Clean("+show(x)+")", real.Clean(x), of(bitsOfNaN))
	}
	mustBe(t, "Clean(-0)", real.Clean(minus), of(0))
	mustBe(t, "Clean(0)", real.Clean(0), of(0))
	for _, x := range append(positives(), inf) {
		mustBe(t, "Clean("+show(x)+")", real.Clean(x), x)
		mustBe(t, "Clean("+show(-x)+")", real.Clean(-x), -x)
	}
}

// P5.2

func TestClampOfOrdinaryNumbers(t *testing.T) {
	for _, c := range [][4]float64{
		{5, 1, 3, 3}, {-5, 1, 3, 1}, {2, 1, 3, 2}, {1, 1, 3, 1}, {3, 1, 3, 3}, {7, 2, 2, 2}, {1, 2, 2, 2}, {2, 2, 2, 2}, {-2, -3, -1, -2}, {0, -3, -1, -1}, {-9, -3, -1, -3},
		{inf, 0, inf, inf}, {inf, 0, 9, 9}, {-inf, 0, 9, 0}, {-inf, -inf, 9, -inf}, {4, -inf, inf, 4}, {4, inf, inf, inf}, {4, -inf, -inf, -inf},
		{great, 0, inf, great}, {tiny, 0, 1, tiny}, {tiny / 2, tiny, 1, tiny}, {math.Nextafter(1, 2), 0, 1, 1},
	} {
		mustBe(t, fmt.Sprint("Clamp of ", c[:3]), real.Clamp(c[0], c[1], c[2]), c[3])
	}
}

func TestClampKeepsTheSignsOfZeros(t *testing.T) {
	for _, c := range [][4]float64{
		{-1, minus, 0, minus}, {1, minus, 0, 0}, {minus, minus, 0, minus}, {0, minus, 0, 0}, {minus, 0, 1, 0}, {0, -1, minus, minus},
		{0, 0, 0, 0}, {minus, minus, minus, minus}, {minus, 0, 0, 0}, {0, minus, minus, minus}, {minus, -1, 1, minus}, {0, -1, 1, 0},
	} {
		mustBe(t, fmt.Sprint("Clamp of ", c[:3]), real.Clamp(c[0], c[1], c[2]), c[3])
	}
}

func TestClampOfNoBounds(t *testing.T) {
	for _, c := range [][3]float64{{1, 3, 2}, {2.5, 3, 2}, {9, 3, 2}, {0, 0, minus}, {minus, 0, minus}, {5, 0, minus}, {1, inf, -inf}, {inf, inf, great}, {1, math.Nextafter(1, 2), 1}} {
		mustBe(t, fmt.Sprint("Clamp of ", c), real.Clamp(c[0], c[1], c[2]), of(bitsOfNaN))
	}
	for _, x := range nans() {
		for _, c := range [][3]float64{{x, 0, 1}, {0.5, x, 1}, {0.5, 0, x}, {x, x, 1}, {x, 0, x}, {0.5, x, x}, {x, x, x}, {x, 1, 0}, {inf, x, inf}, {-inf, -inf, x}} {
			mustBe(t, fmt.Sprint("Clamp of ", c), real.Clamp(c[0], c[1], c[2]), of(bitsOfNaN))
		}
	}
}

func clampOf(x, low, high float64) float64 {
	switch {
	case rank(x) == 0 || rank(low) == 0 || rank(high) == 0 || rank(low) > rank(high):
		return of(bitsOfNaN)
	case rank(x) < rank(low):
		return low
	case rank(x) > rank(high):
		return high
	}
	return x
}

func TestClampOfAllPlaces(t *testing.T) {
	list := row()
	for _, x := range list {
		for _, low := range list {
			for _, high := range list {
				if got := real.Clamp(x, low, high); !alike(got, clampOf(x, low, high)) {
					t.Fatalf("Clamp(%s, %s, %s) = %s", show(x), show(low), show(high), show(got))
				}
			}
		}
	}
}

func TestRatio(t *testing.T) {
	for _, c := range []struct {
		a, b int
		want float64
	}{
		{1, 4, 0.25}, {6, 3, 2}, {-1, 4, -0.25}, {1, -4, -0.25}, {-1, -4, 0.25}, {1, 3, 1.0 / 3}, {2, 3, 2.0 / 3}, {1, 10, 0.1}, {7, 7, 1},
		{0, 5, 0}, {0, -5, 0}, {0, math.MaxInt, 0}, {0, math.MinInt, 0},
		{math.MaxInt, 1, 1 << 63}, {math.MinInt, 1, -1 << 63}, {math.MinInt, -1, 1 << 63}, {math.MaxInt, math.MinInt, -1}, {math.MinInt, math.MinInt, 1}, {math.MaxInt, math.MaxInt, 1},
		{1, math.MinInt, -1.0 / (1 << 63)}, {1, math.MaxInt, 1.0 / (1 << 63)},
		{1<<53 + 1, 1, 1 << 53}, {1<<53 + 3, 1, 1<<53 + 4}, {1<<53 + 1, 1<<53 + 1, 1}, {1<<53 + 1, 1 << 53, 1},
	} {
		mustBe(t, fmt.Sprintf("Ratio(%d, %d)", c.a, c.b), real.Ratio(c.a, c.b), c.want)
	}
}

func TestRatioByNothing(t *testing.T) {
	mustBe(t, "Ratio(0, 0)", real.Ratio(0, 0), of(bitsOfNaN))
	for _, a := range []int{1, 3, 7, 1 << 53, math.MaxInt} {
		mustBe(t, fmt.Sprintf("Ratio(%d, 0)", a), real.Ratio(a, 0), inf)
		mustBe(t, fmt.Sprintf("Ratio(%d, 0)", -a), real.Ratio(-a, 0), -inf)
	}
	mustBe(t, "Ratio of the least int by 0", real.Ratio(math.MinInt, 0), -inf)
}

func TestRatioRoundsTheNumbersThenTheirQuotient(t *testing.T) {
	bits := scattered(2000)
	for i := 0; i < len(bits); i += 2 {
		a, b := int(bits[i])>>(i%60), int(bits[i+1])>>(i/2%60)
		if a == 0 || b == 0 {
			continue
		}
		upper, _ := new(big.Float).SetInt64(int64(a)).Float64()
		lower, _ := new(big.Float).SetInt64(int64(b)).Float64()
		want, _ := new(big.Rat).Quo(new(big.Rat).SetFloat64(upper), new(big.Rat).SetFloat64(lower)).Float64()
		mustBe(t, fmt.Sprintf("Ratio(%d, %d)", a, b), real.Ratio(a, b), want)
	}
}

func TestMixOfOrdinaryNumbers(t *testing.T) {
	for _, c := range [][4]float64{
		{10, 20, 0.5, 15}, {10, 20, 0, 10}, {10, 20, 1, 20}, {10, 20, 0.25, 12.5}, {20, 10, 0.25, 17.5}, {-4, 4, 0.5, 0}, {4, -4, 0.5, 0}, {-8, -16, 0.125, -9},
		{10, 20, minus, 10}, {3, 3, 0.7, 3}, {10, 20, tiny, 10}, {10, 20, math.Nextafter(1, 0), 20},
		{0, tiny, 0.5, 0}, {0, tiny, 1, tiny}, {0, 3 * tiny, 0.5, 2 * tiny}, {tiny, 0, 1, 0},
	} {
		mustBe(t, fmt.Sprint("Mix of ", c[:3]), real.Mix(c[0], c[1], c[2]), c[3])
	}
}

func TestMixOfNoWeight(t *testing.T) {
	weights := append(nans(), -tiny, -0.5, -1, -great, -inf, math.Nextafter(1, 2), 2, great, inf)
	for _, weight := range weights {
		for _, mean := range []float64{10, 0, inf, -inf, math.NaN(), of(bitsOfNaN | bitsOfSign)} {
			for _, x := range []float64{20, 10, minus, inf, math.NaN()} {
				mustBe(t, fmt.Sprint("Mix of ", mean, x, weight), real.Mix(mean, x, weight), of(bitsOfNaN))
			}
		}
	}
}

func TestMixOfNaN(t *testing.T) {
	for _, weight := range []float64{0, minus, 0.5, 1} {
		for _, none := range nans() {
			for _, x := range someNumbers() {
				mustBe(t, fmt.Sprint("Mix of ", none, x, weight), real.Mix(none, x, weight), cleanOf(x))
				mustBe(t, fmt.Sprint("Mix of ", x, none, weight), real.Mix(x, none, weight), cleanOf(x))
			}
		}
	}
}

func TestMixIsCleanedAtTheEnd(t *testing.T) {
	for _, c := range [][4]float64{
		{minus, minus, 0.5, 0}, {minus, minus, 0, 0}, {minus, minus, 1, 0}, {minus, 0, 1, 0}, {0, minus, 1, 0}, {minus, minus, minus, 0}, {minus, -tiny, 0.25, 0},
		{0, -tiny, 0.5, 0}, {-tiny, 0, 1, 0},
	} {
		mustBe(t, fmt.Sprint("Mix of ", c[:3]), real.Mix(c[0], c[1], c[2]), of(0))
	}
	for _, c := range [][3]float64{{inf, inf, 0.5}, {-inf, -inf, 0.5}, {inf, inf, 0}, {inf, inf, 1}, {10, inf, 0}, {10, -inf, minus}, {inf, 10, 0}, {inf, 10, 0.5}, {inf, -inf, 1}, {-inf, inf, 0.5}, {great, -great, 0}} {
		mustBe(t, fmt.Sprint("Mix of ", c), real.Mix(c[0], c[1], c[2]), of(bitsOfNaN))
	}
	for _, c := range [][4]float64{{10, inf, 0.5, inf}, {10, -inf, 1, -inf}, {-great, great, 0.5, inf}, {great, -great, 1, -inf}, {10, inf, tiny, inf}} {
		mustBe(t, fmt.Sprint("Mix of ", c[:3]), real.Mix(c[0], c[1], c[2]), c[3])
	}
}

// rounded is what an operation comes to if it is worked out whole, then
// rounded once.
func rounded(work func(z, a, b *big.Float) *big.Float, a, b float64) float64 {
	const enough = 4500
	wide := func(x float64) *big.Float { return new(big.Float).SetPrec(enough).SetFloat64(x) }
	got, _ := work(new(big.Float).SetPrec(enough), wide(a), wide(b)).Float64()
	return got
}

func mixOf(mean, x, weight float64) float64 {
	product := rounded((*big.Float).Mul, weight, rounded((*big.Float).Sub, x, mean))
	return cleanOf(rounded((*big.Float).Add, mean, product))
}

func fusedMix(mean, x, weight float64) float64 { return cleanOf(math.FMA(weight, x-mean, mean)) }

func TestMixRoundsEachStep(t *testing.T) {
	const mantissa = 1<<52 - 1
	bits := scattered(6000)
	told := 0
	for i := 0; i < len(bits); i += 3 {
		mean, x := of(bitsOfOne|bits[i]&mantissa), of(bitsOfOne|bits[i+1]&mantissa)
		weight := of(bitsOfHalf | bits[i+2]&mantissa)
		want := mixOf(mean, x, weight)
		if fusedMix(mean, x, weight) != want {
			told++
		}
		mustBe(t, fmt.Sprint("Mix of ", mean, x, weight), real.Mix(mean, x, weight), want)
	}
	if told == 0 {
		t.Error("no case tells three roundings from two")
	}
}

func TestMixAtTheEdges(t *testing.T) {
	for _, mean := range append(positives(), 0) {
		for _, x := range append(positives(), 0) {
			for _, weight := range []float64{0, tiny, 0.001, 0.1, 0.3, 0.5, 0.999, math.Nextafter(1, 0), 1} {
				mustBe(t, fmt.Sprint("Mix of ", mean, x, weight), real.Mix(mean, x, weight), mixOf(mean, x, weight))
			}
		}
	}
}

// P5.3

func TestPrintOfKnownNumbers(t *testing.T) {
	for want, x := range map[string]float64{
		"nan": math.NaN(), "inf": inf, "-inf": -inf,
		"0000000000000000": 0, "8000000000000000": minus, "3ff0000000000000": 1, "bff0000000000000": -1, "3ff8000000000000": 1.5, "3fb999999999999a": 0.1,
		"0000000000000001": tiny, "8000000000000001": -tiny, "7fefffffffffffff": great, "ffefffffffffffff": -great,
		"0123456789abcdef": of(0x0123456789ABCDEF), "fedcba9876543210": of(0xFEDCBA9876543210),
	} {
		if got := real.Print(x); got != want {
			t.Errorf("Print(%s) = %q, want %q", show(x), got, want)
		}
		if got, e := real.Parse(want); !alike(got, x) && want != "nan" || e != api.OK {
			t.Errorf("Parse(%q) = %s, %v", want, show(got), e)
		}
	}
	for _, x := range nans() {
		if got := real.Print(x); got != "nan" {
			t.Errorf("Print(%s) = %q", show(x), got)
		}
	}
	if got, e := real.Parse("nan"); !alike(got, of(bitsOfNaN)) || e != api.OK {
		t.Errorf("Parse of nan = %s, %v", show(got), e)
	}
}

func TestPrintIsReadAgain(t *testing.T) {
	list := row()
	for _, bits := range scattered(5000) {
		list = append(list, of(bits))
	}
	for place := range 64 {
		list = append(list, of(1<<place), of(^uint64(1<<place)))
	}
	for _, x := range list {
		s := real.Print(x)
		if class := classOf(x); class != 1 && class != 2 && class != 7 && s != fmt.Sprintf("%016x", math.Float64bits(x)) {
			t.Errorf("Print(%s) = %q", show(x), s)
		}
		want := x
		if math.IsNaN(x) {
			want = of(bitsOfNaN)
		}
		if got, e := real.Parse(s); !alike(got, want) || e != api.OK {
			t.Errorf("Parse(%q) = %s, %v", s, show(got), e)
		}
	}
}

func mustBeNoNumber(t *testing.T, s string) {
	t.Helper()
	if x, e := real.Parse(s); !alike(x, 0) || e != api.ErrForm {
		t.Errorf("Parse(%.40q) = %s, %v, want 0, ErrForm", s, show(x), e)
	}
}

func TestParseOfNoText(t *testing.T) {
	for _, s := range []string{
		"", " ", "NaN", "NAN", "Nan", "-nan", "+nan", "nan ", " nan", "nan\n", "nan\x00", "na", "nann", "n",
		"Inf", "INF", "+inf", "+Inf", "-Inf", "--inf", "inf ", " inf", "-inf ", "- inf", "infinity", "-infinity", "in", "-in", "-",
		"0", "-0", "1", "1.5", "0.5", "1e3", "0x1p0", "3FF8000000000000", "3ff800000000000A", "3ff800000000000", "3ff80000000000000", "03ff8000000000000", "003ff8000000000000",
		"3ff800000000000g", "g000000000000000", "3ff8 00000000000", "3ff800000000000 ", " 3ff800000000000", "3ff8000000000000\n", "3ff8000000000000 ", "0x3ff80000000000", "-3ff800000000000", "+3ff800000000000",
		"3ff8000000000000inf", "\x00\x00\x00\x00\x00\x00\x00\x00", strings.Repeat("\x00", 16), strings.Repeat("\xff", 16), strings.Repeat("é", 8), strings.Repeat("0", 15), strings.Repeat("0", 17), strings.Repeat("0", 32), strings.Repeat("0", 1<<16),
	} {
		mustBeNoNumber(t, s)
	}
}

func TestWhatHasAWordIsNotReadByItsBits(t *testing.T) {
	for _, x := range append(nans(), inf, -inf) {
		mustBeNoNumber(t, fmt.Sprintf("%016x", math.Float64bits(x)))
	}
}

// written has the texts by bits; those of NaN and of infinities have words.
var written = regexp.MustCompile(`\A([0-689a-e][0-9a-f]{2}|[7f][0-9a-e][0-9a-f]|[7f]f[0-9a-e])[0-9a-f]{13}\z`)

func checkParse(t *testing.T, s string) {
	t.Helper()
	var want float64
	switch {
	case s == "nan":
		want = of(bitsOfNaN)
	case s == "inf":
		want = inf
	case s == "-inf":
		want = -inf
	case written.MatchString(s):
		bits, err := strconv.ParseUint(s, 16, 64)
		if err != nil {
			t.Fatal(err)
		}
		want = of(bits)
	default:
		mustBeNoNumber(t, s)
		return
	}
	if got, e := real.Parse(s); !alike(got, want) || real.Print(got) != s || e != api.OK {
		t.Errorf("Parse(%q) = %s, %v, want %s", s, show(got), e, show(want))
	}
}

func TestTextThatIsReadWouldHaveBeenWritten(t *testing.T) {
	for _, base := range []string{"nan", "inf", "-inf", real.Print(1.5), real.Print(great), real.Print(-great), real.Print(minus), "7ff8000000000000", "fff0000000000000"} {
		for at := range len(base) + 1 {
			checkParse(t, base[:at])
			checkParse(t, base[at:])
			for b := range 256 {
				stray := string([]byte{byte(b)})
				checkParse(t, base[:at]+stray+base[at:])
				if at < len(base) {
					checkParse(t, base[:at]+stray+base[at+1:])
				}
			}
		}
	}
}

// P5.4

// weight has HTTP's form of a weight.
var weight = regexp.MustCompile(`\A(0(\.[0-9]{0,3})?|1(\.0{0,3})?)\z`)

func checkQuality(t *testing.T, s string) {
	t.Helper()
	got, e := real.Quality(s)
	if !weight.MatchString(s) {
		if !alike(got, 0) || e != api.ErrForm {
			t.Errorf("Quality(%.40q) = %s, %v, want 0, ErrForm", s, show(got), e)
		}
		return
	}
	want, err := strconv.ParseFloat(s, 64)
	if err != nil || !alike(got, want) || e != api.OK {
		t.Errorf("Quality(%q) = %s, %v, want %s", s, show(got), e, show(want))
	}
}

func TestQuality(t *testing.T) {
	for s, want := range map[string]float64{
		"0": 0, "0.": 0, "0.0": 0, "0.00": 0, "0.000": 0, "1": 1, "1.": 1, "1.0": 1, "1.00": 1, "1.000": 1,
		"0.5": 0.5, "0.50": 0.5, "0.500": 0.5, "0.1": 0.1, "0.01": 0.01, "0.001": 0.001, "0.07": 0.07, "0.125": 0.125, "0.3": 0.3, "0.7": 0.7, "0.29": 0.29, "0.999": 0.999, "0.9": 0.9,
	} {
		if got, e := real.Quality(s); !alike(got, want) || e != api.OK {
			t.Errorf("Quality(%q) = %s, %v", s, show(got), e)
		}
	}
}

func TestQualityOfAllDecimals(t *testing.T) {
	for places, by := range []int{1, 10, 100, 1000, 10000} {
		for n := range by {
			decimals := fmt.Sprintf("%0*d", places, n)[:places]
			checkQuality(t, "0."+decimals)
			checkQuality(t, "1."+decimals)
			if got, e := real.Quality("0." + decimals); places <= 3 && (!alike(got, float64(n)/float64(by)) || e != api.OK) {
				t.Errorf("Quality(0.%s) = %s, %v", decimals, show(got), e)
			}
		}
	}
}

func TestQualityOfNoForm(t *testing.T) {
	for _, s := range []string{
		"", ".", "..", ".5", ".0", "5", "2", "2.0", "9.", "00", "01", "10", "11", "00.5", "01.0", "10.0", "0..", "0..5", "0.5.", "0.5.5", "0.1.2", "1..", "1.0.", "1.0.0",
		"1.1", "1.01", "1.001", "1.9", "1.999", "0.1234", "0.0000", "1.0000", "0.00000000000", "0,5", "-0", "+0", "-0.5", "+0.5", "-1", "0.-5", "0.+5", "0. 5", "0 .5",
		"0.5 ", " 0.5", "0.5\n", "\n0.5", "0.5\x00", "1 ", " 1", "1\n", "0.5e0", "0.5e", "1e0", "0e1", "0x1", "0.a", "0.x5", "0.5f", "inf", "nan", "q", "q=0.5", "0.\u0665", "\u0660", "０", "0.５", "0.\xff", "\xff", "\x00",
		"0/5", "0:5", "1/", "0./", "0.:", "1./", "1.1/", "0." + strings.Repeat("0", 1<<16), strings.Repeat("0", 1<<16), "1." + strings.Repeat("0", 1<<16),
	} {
		if got, e := real.Quality(s); !alike(got, 0) || e != api.ErrForm {
			t.Errorf("Quality(%.40q) = %s, %v", s, show(got), e)
		}
	}
}

func TestQualityOfAllShortTexts(t *testing.T) {
	const letters = "0125.9-+ e/:\x00"
	texts := []string{""}
	for range 5 {
		var longer []string
		for _, s := range texts {
			for i := range letters {
				longer = append(longer, s+letters[i:i+1])
			}
		}
		for _, s := range texts {
			checkQuality(t, s)
		}
		texts = longer
	}
}

func TestQualityWithAnyByteAtAnyPlace(t *testing.T) {
	for _, base := range []string{"0", "1", "0.", "1.", "0.5", "1.0", "0.25", "1.00", "0.125", "1.000"} {
		for at := range len(base) + 1 {
			for b := range 256 {
				stray := string([]byte{byte(b)})
				checkQuality(t, base[:at]+stray+base[at:])
				if at < len(base) {
					checkQuality(t, base[:at]+stray+base[at+1:])
				}
			}
		}
	}
}

// P5.5

func mustBeInARow(t *testing.T, a, b float64) {
	t.Helper()
	less, more, same := real.Less(a, b), real.Less(b, a), real.Same(a, b)
	if less && more || same == (less || more) {
		t.Errorf("%s and %s: less %v, more %v, same %v", show(a), show(b), less, more, same)
	}
	if less != (rank(a) < rank(b)) || same != (rank(a) == rank(b)) || same != real.Same(b, a) {
		t.Errorf("%s and %s stand otherwise than their bits: less %v, same %v", show(a), show(b), less, same)
	}
}

func TestLessIsOneRow(t *testing.T) {
	list := someNumbers()
	for _, bits := range scattered(300) {
		list = append(list, of(bits), of(bits&^(1<<62-1)), of(bits>>2|3<<60))
	}
	for _, a := range list {
		for _, b := range list {
			mustBeInARow(t, a, b)
		}
	}
	slices.SortFunc(list, func(a, b float64) int {
		switch {
		case real.Less(a, b):
			return -1
		case real.Less(b, a):
			return 1
		}
		return 0
	})
	for i := range list {
		for _, b := range list[i:] {
			if real.Less(b, list[i]) {
				t.Fatalf("%s stands ahead of %s", show(b), show(list[i]))
			}
		}
	}
}

func TestWhatIsCleanedStaysSo(t *testing.T) {
	list := someNumbers()
	for _, bits := range scattered(5000) {
		list = append(list, of(bits))
	}
	for _, x := range list {
		once := real.Clean(x)
		mustBe(t, "Clean("+show(x)+")", once, cleanOf(x))
		mustBe(t, "Clean("+show(x)+") again", real.Clean(once), once)
	}
	for _, a := range []int{0, 1, -1, 3, math.MaxInt, math.MinInt} {
		for _, b := range []int{0, 1, -1, 3, math.MaxInt, math.MinInt} {
			x := real.Ratio(a, b)
			mustBe(t, fmt.Sprintf("Clean(Ratio(%d, %d))", a, b), real.Clean(x), x)
		}
	}
}

// The chapter's examples.

func TestExamples(t *testing.T) {
	mustBe(t, "Ratio(0, 0)", real.Ratio(0, 0), of(bitsOfNaN))
	mustBe(t, "Ratio(-3, 0)", real.Ratio(-3, 0), -inf)
	for s, want := range map[string]float64{"0.5": 0.5, "1.": 1} {
		if got, e := real.Quality(s); !alike(got, want) || e != api.OK {
			t.Errorf("Quality(%q) = %s, %v", s, show(got), e)
		}
	}
	for _, s := range []string{"1.1", ".5"} {
		if got, e := real.Quality(s); !alike(got, 0) || e != api.ErrForm {
			t.Errorf("Quality(%q) = %s, %v", s, show(got), e)
		}
	}
	if got := real.Print(1); got != "3ff0000000000000" {
		t.Errorf("Print(1) = %q", got)
	}
}

// P1, and all of the above at any arguments.

func FuzzNumbers(f *testing.F) {
	for _, a := range []uint64{0, bitsOfSign, bitsOfOne, bitsOfHalf, bitsOfInf, bitsOfInf | bitsOfSign, bitsOfNaN, bitsOfInf + 1, 1, leastNormal} {
		f.Add(a, uint64(bitsOfOne), uint64(bitsOfHalf), 3, 0)
		f.Add(uint64(bitsOfOne), a, uint64(bitsOfOne), math.MinInt, -1)
	}
	f.Fuzz(func(t *testing.T, x, y, z uint64, m, n int) {
		a, b, c := of(x), of(y), of(z)
		if got := real.Class(a); got != classOf(a) {
			t.Errorf("Class(%s) = %d", show(a), got)
		}
		mustBeInARow(t, a, b)
		mustBe(t, "Clean", real.Clean(a), cleanOf(a))
		mustBe(t, "Clamp", real.Clamp(a, b, c), clampOf(a, b, c))
		if got, e := real.Parse(real.Print(a)); !real.Same(got, a) || e != api.OK {
			t.Errorf("Parse(Print(%s)) = %s, %v", show(a), show(got), e)
		}
		ratio := real.Ratio(m, n)
		if classOf(ratio) == 4 || (classOf(ratio) == 1) != (m == 0 && n == 0) || (classOf(ratio) == 5) != (m == 0 && n != 0) {
			t.Errorf("Ratio(%d, %d) = %s", m, n, show(ratio))
		}
		mix := real.Mix(a, b, c)
		mustBe(t, "Clean(Mix)", cleanOf(mix), mix)
		if !(c >= 0 && c <= 1) {
			mustBe(t, "Mix of no weight", mix, of(bitsOfNaN))
		}
	})
}

func FuzzTexts(f *testing.F) {
	for _, s := range []string{"", "nan", "inf", "-inf", "3ff0000000000000", "7ff0000000000000", "0", "1", "0.5", "1.000", "1.1", ".5", "0.1234"} {
		f.Add(s)
	}
	f.Fuzz(func(t *testing.T, s string) {
		checkParse(t, s)
		checkQuality(t, s)
	})
}
