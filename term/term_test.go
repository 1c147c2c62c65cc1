package term_test

import (
	"fmt"
	"math"
	"math/big"
	"slices"
	"testing"

	"manciple/api"
	"manciple/real"
	"manciple/term"
)

const (
	bitsOfNaN  = 0x7FF8000000000000
	bitsOfInf  = 0x7FF0000000000000
	bitsOfSign = 0x8000000000000000
	lastTick   = 1 << 40
	longest    = 1 << 20
)

var (
	inf   = math.Inf(1)
	minus = math.Copysign(0, -1)
	tiny  = math.SmallestNonzeroFloat64
	great = math.MaxFloat64
)

func of(bits uint64) float64 { return math.Float64frombits(bits) }

func up(x float64) float64 { return math.Nextafter(x, inf) }

func down(x float64) float64 { return math.Nextafter(x, -inf) }

// alike holds bits against each other: == would take the zeros for one, and
// no NaN for itself.
func alike(a, b float64) bool { return math.Float64bits(a) == math.Float64bits(b) }

func show(x float64) string { return fmt.Sprintf("%v (%016x)", x, math.Float64bits(x)) }

// noSpans are numbers that can't be spans: all kinds of NaN, and what is
// below 0, down to its end.
func noSpans() []float64 {
	list := []float64{-tiny, -0.5, -1, -1.5, -lastTick, -1 << 63, -great, -inf}
	for _, bits := range []uint64{bitsOfNaN, bitsOfNaN + 1, bitsOfInf + 1, 0x7FF7FFFFFFFFFFFF, 0x7FFFFFFFFFFFFFFF} {
		list = append(list, of(bits), of(bits|bitsOfSign))
	}
	return list
}

// spans rise by their size, from both zeros on; each stands at or beside an
// edge.
func spans() []float64 {
	list := []float64{minus, 0, tiny, 2 * tiny, 0x1p-1022, 1e-300, 0.25, 0.5, 0.75}
	for _, x := range []float64{1, 2, 3, 9.5, 10, 100, longest, lastTick - 1, lastTick, lastTick + 1, 1 << 52, 1 << 53, 1 << 54, 1 << 62, 1 << 63, 1 << 64, 1e300} {
		list = append(list, down(x), x, up(x))
	}
	return append(list, down(great), great, inf)
}

func numbers() []float64 { return append(spans(), noSpans()...) }

// wholes are whole numbers at and beside the edges of ticks, of what a
// float64 tells apart, and of int.
func wholes() []int {
	var list []int
	for _, n := range []int{0, 1, 2, 3, 9, 10, 99, 100, longest, lastTick, lastTick / 2, 1 << 53, 1<<53 + 2, 1 << 54, 1 << 62} {
		list = append(list, n-1, n, n+1, -n)
	}
	return append(list, math.MaxInt-512, math.MaxInt-511, math.MaxInt-1, math.MaxInt, math.MinInt, math.MinInt+1)
}

// scattered are bits without a pattern, the same ones at each run.
func scattered(n int) []uint64 {
	list := make([]uint64, n)
	seed := uint64(0x9E3779B97F4A7C15)
	for i := range list {
		seed ^= seed << 13
		seed ^= seed >> 7
		seed ^= seed << 17
		list[i] = seed
	}
	return list
}

// scatteredSpans are spans of all sizes below 2^44, by their bits.
func scatteredSpans(n int) []float64 {
	list := make([]float64, n)
	for i, bits := range scattered(n) {
		list[i] = math.Ldexp(float64(bits>>11), int(bits%50)-60)
	}
	return list
}

// The document's sentences once more, by bits and by exact numbers.

// goodOf tells a span by its bits alone.
func goodOf(x float64) bool {
	bits := math.Float64bits(x)
	return bits == bitsOfSign || bits <= bitsOfInf
}

// rat is a number's exact value.
func rat(x float64) *big.Rat { return new(big.Rat).SetFloat64(x) }

// asFloat rounds a whole number to the 53 bits that a float64 has.
func asFloat(n int) *big.Rat {
	exact, _ := new(big.Float).SetPrec(53).SetMode(big.ToNearestEven).SetInt64(int64(n)).Rat(nil)
	return exact
}

func withinOf(age int, span float64) bool {
	switch {
	case age < 0 || !goodOf(span):
		return false
	case math.IsInf(span, 1):
		return true
	}
	return asFloat(age).Cmp(rat(span)) < 0
}

// ceiling is the least whole number that isn't below x.
func ceiling(x *big.Rat) *big.Int {
	whole, rest := new(big.Int).DivMod(x.Num(), x.Denom(), new(big.Int))
	if rest.Sign() != 0 {
		whole.Add(whole, big.NewInt(1))
	}
	return whole
}

func endsOf(at int, span float64) (int, bool) {
	if !goodOf(span) || math.IsInf(span, 1) || at < 0 || at > lastTick {
		return 0, false
	}
	end := ceiling(rat(span))
	end.Add(end, big.NewInt(int64(at)))
	if end.Cmp(big.NewInt(lastTick)) > 0 {
		return 0, false
	}
	return int(end.Int64()), true
}

func waitOf(base float64, try int) int {
	switch {
	case !goodOf(base) || try < 1:
		return 0
	case math.IsInf(base, 1):
		return longest
	}
	power := new(big.Int).Lsh(big.NewInt(1), uint(min(try, 60)-1))
	wait := ceiling(new(big.Rat).Mul(rat(base), new(big.Rat).SetInt(power)))
	if wait.Cmp(big.NewInt(longest)) > 0 {
		return longest
	}
	return int(wait.Int64())
}

func gradeOf(age int, span float64) float64 {
	switch {
	case !withinOf(age, span):
		return 0
	case math.IsInf(span, 1):
		return 1
	}
	left, _ := new(big.Rat).Sub(rat(span), asFloat(age)).Float64()
	grade, _ := new(big.Rat).Quo(rat(left), rat(span)).Float64()
	return grade
}

// nearestOf takes bits as numbers: among those of spans they rise alike.
func nearestOf(list []float64) float64 {
	least := uint64(bitsOfInf)
	for _, x := range list {
		if goodOf(x) {
			least = min(least, math.Float64bits(x)&^bitsOfSign)
		}
	}
	return of(least)
}

func checkGood(t *testing.T, span float64) {
	t.Helper()
	if got := term.Good(span); got != goodOf(span) {
		t.Errorf("Good(%s) = %v", show(span), got)
	}
}

func checkWithin(t *testing.T, age int, span float64) {
	t.Helper()
	if got := term.Within(age, span); got != withinOf(age, span) {
		t.Errorf("Within(%d, %s) = %v", age, show(span), got)
	}
}

func checkEnds(t *testing.T, at int, span float64) {
	t.Helper()
	end, ok := term.Ends(at, span)
	if want, is := endsOf(at, span); end != want || ok != is {
		t.Errorf("Ends(%d, %s) = %d, %v, want %d, %v", at, show(span), end, ok, want, is)
	}
}

func checkWait(t *testing.T, base float64, try int) {
	t.Helper()
	if got, want := term.Wait(base, try), waitOf(base, try); got != want {
		t.Errorf("Wait(%s, %d) = %d, want %d", show(base), try, got, want)
	}
}

func checkGrade(t *testing.T, age int, span float64) {
	t.Helper()
	if got, want := term.Grade(age, span), gradeOf(age, span); !alike(got, want) {
		t.Errorf("Grade(%d, %s) = %s, want %s", age, show(span), show(got), show(want))
	}
}

func checkNearest(t *testing.T, list ...float64) {
	t.Helper()
	if got, want := term.Nearest(list...), nearestOf(list); !alike(got, want) {
		t.Errorf("Nearest(%v) = %s, want %s", list, show(got), show(want))
	}
}

// P6.1

func TestGood(t *testing.T) {
	for _, span := range spans() {
		if !term.Good(span) {
			t.Errorf("Good(%s) = false", show(span))
		}
	}
	for _, x := range noSpans() {
		if term.Good(x) {
			t.Errorf("Good(%s) = true", show(x))
		}
	}
}

func TestGoodOfAllExponents(t *testing.T) {
	for head := range uint64(1 << 12) {
		for _, rest := range []uint64{0, 1, 1 << 51, 1<<51 - 1, 1<<52 - 1} {
			checkGood(t, of(head<<52|rest))
		}
	}
}

func TestWithin(t *testing.T) {
	for _, c := range []struct {
		age  int
		span float64
		want bool
	}{
		{0, 0, false}, {0, minus, false}, {0, tiny, true}, {1, tiny, false}, {0, 0.5, true}, {1, 0.5, false},
		{0, 1, true}, {1, 1, false}, {1, up(1), true}, {1, down(1), false}, {2, 1, false}, {7, 8, true}, {8, 8, false}, {9, 8, false},
		{0, inf, true}, {5, inf, true}, {math.MaxInt, inf, true}, {math.MaxInt, great, true},
		{lastTick, lastTick, false}, {lastTick, lastTick + 1, true}, {lastTick + 1, lastTick + 1, false}, {lastTick, up(lastTick), true},
	} {
		if got := term.Within(c.age, c.span); got != c.want {
			t.Errorf("Within(%d, %s) = %v", c.age, show(c.span), got)
		}
	}
}

func TestNothingIsWithinNoSpan(t *testing.T) {
	for _, span := range noSpans() {
		for _, age := range wholes() {
			if term.Within(age, span) {
				t.Errorf("Within(%d, %s) = true", age, show(span))
			}
		}
	}
}

func TestNoAgeIsBelowNothing(t *testing.T) {
	for _, age := range []int{-1, -2, -9, -lastTick, math.MinInt + 1, math.MinInt} {
		for _, span := range numbers() {
			if term.Within(age, span) {
				t.Errorf("Within(%d, %s) = true", age, show(span))
			}
		}
	}
}

// Behind 2^53 not all whole numbers are float64s: 2^53 + 1 is taken for 2^53,
// 2^53 + 3 for 2^53 + 4, the greatest int for 2^63.
func TestWithinTakesAnAgeAsAFloat(t *testing.T) {
	for _, c := range []struct {
		age  int
		span float64
		want bool
	}{
		{1<<53 - 1, 1 << 53, true}, {1 << 53, 1 << 53, false}, {1 << 53, 1<<53 + 2, true}, {1<<53 + 1, 1<<53 + 2, true}, {1<<53 + 2, 1<<53 + 2, false},
		{1<<53 + 3, 1<<53 + 4, false}, {1<<53 + 3, 1<<53 + 6, true},
		{math.MaxInt, 1 << 63, false}, {math.MaxInt - 511, 1 << 63, false}, {math.MaxInt - 512, 1 << 63, true}, {math.MaxInt, up(1 << 63), true},
	} {
		if got := term.Within(c.age, c.span); got != c.want {
			t.Errorf("Within(%d, %s) = %v", c.age, show(c.span), got)
		}
		checkWithin(t, c.age, c.span)
	}
}

func TestWithinAtAllEdges(t *testing.T) {
	for _, span := range numbers() {
		for _, age := range wholes() {
			checkWithin(t, age, span)
		}
	}
}

// P6.2

func TestEnds(t *testing.T) {
	for _, c := range []struct {
		at   int
		span float64
		want int
	}{
		{0, 0, 0}, {0, minus, 0}, {10, 0, 10}, {10, minus, 10}, {lastTick, 0, lastTick}, {lastTick, minus, lastTick},
		{10, tiny, 11}, {10, 0.25, 11}, {10, down(1), 11}, {10, 1, 11}, {10, up(1), 12}, {10, 3, 13}, {10, 3.5, 14}, {0, 3.5, 4}, {100, 9.5, 110},
		{0, lastTick, lastTick}, {0, down(lastTick), lastTick}, {0, lastTick - 1, lastTick - 1}, {0, up(lastTick - 1), lastTick}, {1, lastTick - 1, lastTick},
		{lastTick - 1, 1, lastTick}, {lastTick - 1, 0.5, lastTick}, {lastTick - 1, tiny, lastTick}, {lastTick - 5, 4.5, lastTick}, {lastTick - 5, 5, lastTick},
	} {
		if end, ok := term.Ends(c.at, c.span); end != c.want || !ok {
			t.Errorf("Ends(%d, %s) = %d, %v, want %d", c.at, show(c.span), end, ok, c.want)
		}
	}
}

func mustNotEnd(t *testing.T, at int, span float64) {
	t.Helper()
	if end, ok := term.Ends(at, span); end != 0 || ok {
		t.Errorf("Ends(%d, %s) = %d, %v, want 0, false", at, show(span), end, ok)
	}
}

func TestWhatEndsBehindTheLastTickDoesNotEnd(t *testing.T) {
	for _, at := range []int{0, 1, 10, lastTick / 2, lastTick - 1, lastTick} {
		for _, span := range []float64{inf, great, 1 << 64, 1 << 63, 1 << 62, 1 << 53, lastTick + 1, up(lastTick)} {
			mustNotEnd(t, at, span)
		}
		left := float64(lastTick - at)
		mustNotEnd(t, at, up(left))
		mustNotEnd(t, at, left+0.25)
		mustNotEnd(t, at, left+1)
	}
}

func TestNothingEndsOfNoSpan(t *testing.T) {
	for _, span := range noSpans() {
		for _, at := range wholes() {
			mustNotEnd(t, at, span)
		}
	}
}

func TestNothingEndsFromNoTick(t *testing.T) {
	for _, at := range []int{-1, -2, -lastTick, math.MinInt, math.MinInt + 1, lastTick + 1, lastTick + 2, 1 << 53, math.MaxInt - 1, math.MaxInt} {
		for _, span := range numbers() {
			mustNotEnd(t, at, span)
		}
		mustNotEnd(t, at, float64(at))
		mustNotEnd(t, at, -float64(at))
	}
}

func TestEndsAtAllEdges(t *testing.T) {
	list := append(numbers(), scatteredSpans(200)...)
	for _, at := range wholes() {
		left := float64(lastTick - at)
		for _, span := range append(list, left-1, down(left), left) {
			checkEnds(t, at, span)
		}
	}
}

// The first tick, found by going from tick to tick.
func TestEndsIsTheFirstTickThatIsNotWithin(t *testing.T) {
	for _, at := range []int{0, 1, 7, lastTick - 12, lastTick - 2, lastTick - 1, lastTick} {
		for quarters := range 60 {
			span := float64(quarters) / 4
			want, is := 0, false
			for tick := at; tick <= lastTick; tick++ {
				if !term.Within(tick-at, span) {
					want, is = tick, true
					break
				}
			}
			if end, ok := term.Ends(at, span); end != want || ok != is {
				t.Errorf("Ends(%d, %v) = %d, %v, want %d, %v", at, span, end, ok, want, is)
			}
		}
	}
}

// P6.3

func TestWait(t *testing.T) {
	for _, c := range []struct {
		base float64
		try  int
		want int
	}{
		{1, 1, 1}, {1, 2, 2}, {1, 3, 4}, {1, 11, 1024}, {1.5, 1, 2}, {1.5, 2, 3}, {1.5, 3, 6}, {0.25, 1, 1}, {0.25, 2, 1}, {0.25, 3, 1}, {0.25, 4, 2}, {0.3, 3, 2}, {0.3, 5, 5},
		{down(1), 1, 1}, {up(1), 1, 2}, {up(1), 2, 3}, {10, 1, 10}, {10, 4, 80}, {tiny, 1, 1}, {tiny, 60, 1}, {tiny, 99, 1},
	} {
		if got := term.Wait(c.base, c.try); got != c.want {
			t.Errorf("Wait(%s, %d) = %d, want %d", show(c.base), c.try, got, c.want)
		}
	}
}

func TestWaitIsAtMostMaxWait(t *testing.T) {
	for _, c := range []struct {
		base float64
		try  int
		want int
	}{
		{1, 20, longest / 2}, {1, 21, longest}, {1, 22, longest}, {1, 60, longest}, {1, math.MaxInt, longest},
		{longest, 1, longest}, {longest - 1, 1, longest - 1}, {longest + 1, 1, longest}, {down(longest), 1, longest}, {up(longest), 1, longest}, {longest - 1.5, 1, longest - 1},
		{longest/2 - 0.5, 2, longest - 1}, {longest / 2, 2, longest}, {longest/2 + 0.5, 2, longest},
		{1 << 31, 1, longest}, {1 << 62, 1, longest}, {1 << 63, 1, longest}, {1 << 64, 1, longest}, {1 << 63, 60, longest}, {1e300, 1, longest},
		{great, 1, longest}, {great, 2, longest}, {great, 60, longest}, {inf, 1, longest}, {inf, 2, longest}, {inf, 60, longest}, {inf, 61, longest}, {inf, math.MaxInt, longest},
	} {
		if got := term.Wait(c.base, c.try); got != c.want {
			t.Errorf("Wait(%s, %d) = %d, want %d", show(c.base), c.try, got, c.want)
		}
	}
	if api.MaxWait != longest {
		t.Errorf("MaxWait is %d", api.MaxWait)
	}
}

// Bases so small that the power of 60 is still below the bound tell it from
// those of 59 and 61.
func TestPowerOfATryAbove60IsThatOf60(t *testing.T) {
	base := math.Ldexp(3, -59)
	for try, want := range map[int]int{
		57: 1, 58: 1, 59: 2, 60: 3, 61: 3, 62: 3, 63: 3, 64: 3, 65: 3, 66: 3, 99: 3, 128: 3, 1 << 32: 3, 1<<32 + 1: 3, 1<<63 - 64: 3, math.MaxInt: 3,
	} {
		if got := term.Wait(base, try); got != want {
			t.Errorf("Wait of 3 by 2^59, at %d = %d, want %d", try, got, want)
		}
	}
	if got := term.Wait(math.Ldexp(1, -40), 61); got != 1<<19 {
		t.Errorf("Wait of 1 by 2^40, at 61 = %d", got)
	}
}

func TestWaitOfNothing(t *testing.T) {
	for _, try := range wholes() {
		for _, base := range append(noSpans(), 0, minus) {
			if got := term.Wait(base, try); got != 0 {
				t.Errorf("Wait(%s, %d) = %d", show(base), try, got)
			}
		}
	}
	for _, try := range []int{0, -1, -2, -59, -60, -63, -64, math.MinInt + 1, math.MinInt} {
		for _, base := range numbers() {
			if got := term.Wait(base, try); got != 0 {
				t.Errorf("Wait(%s, %d) = %d", show(base), try, got)
			}
		}
	}
}

func TestWaitAtAllEdges(t *testing.T) {
	for try := -2; try < 130; try++ {
		for _, base := range numbers() {
			checkWait(t, base, try)
			checkWait(t, math.Ldexp(base, 1-try), try)
		}
	}
	for i, base := range scatteredSpans(5000) {
		checkWait(t, base, i%70)
		checkWait(t, math.Ldexp(base, -i%90), i%65)
	}
}

// P6.4

func TestGrade(t *testing.T) {
	for _, c := range []struct {
		age        int
		span, want float64
	}{
		{0, 4, 1}, {1, 4, 0.75}, {2, 4, 0.5}, {3, 4, 0.25}, {4, 4, 0}, {5, 4, 0}, {9, 9.5, 0.5 / 9.5}, {1, 3, 2.0 / 3}, {1, 10, 0.9},
		{0, 0, 0}, {0, minus, 0}, {0, tiny, 1}, {0, great, 1}, {1, great, 1}, {math.MaxInt, great, 1}, {1, tiny, 0},
		{0, inf, 1}, {9, inf, 1}, {lastTick, inf, 1}, {math.MaxInt, inf, 1}, {1, up(1), math.Ldexp(1, -52) / up(1)},
		{-1, 4, 0}, {-1, inf, 0}, {math.MinInt, 4, 0}, {math.MinInt, inf, 0},
	} {
		if got := term.Grade(c.age, c.span); !alike(got, c.want) {
			t.Errorf("Grade(%d, %s) = %s, want %s", c.age, show(c.span), show(got), show(c.want))
		}
	}
}

func TestGradeOfNoSpan(t *testing.T) {
	for _, span := range noSpans() {
		for _, age := range wholes() {
			if got := term.Grade(age, span); !alike(got, 0) {
				t.Errorf("Grade(%d, %s) = %s", age, show(span), show(got))
			}
		}
	}
}

// The difference of a span below 2^53 and an age within it is exact; greater
// spans tell whether it is rounded on its own.
func TestGradeRoundsEachStep(t *testing.T) {
	list := scatteredSpans(3000)
	for _, bits := range scattered(3000) {
		list = append(list, float64(bits>>(bits%9)))
	}
	roundedOnce, asPart := 0, 0
	for i, span := range list {
		third := int(span / 3)
		for _, age := range []int{0, 1, 7, i, third, third >> 3, third >> 9} {
			checkGrade(t, age, span)
			if !withinOf(age, span) {
				continue
			}
			want := gradeOf(age, span)
			left := new(big.Rat).Sub(rat(span), asFloat(age))
			if once, _ := left.Quo(left, rat(span)).Float64(); once != want {
				roundedOnce++
			}
			if 1-float64(age)/span != want {
				asPart++
			}
		}
	}
	if roundedOnce == 0 || asPart == 0 {
		t.Errorf("too few cases tell these steps from others: %d, %d", roundedOnce, asPart)
	}
}

func TestGradeAtAllEdges(t *testing.T) {
	for _, age := range wholes() {
		for _, span := range append(numbers(), float64(age), down(float64(age)), up(float64(age))) {
			checkGrade(t, age, span)
			if got := term.Grade(age, span); !(got >= 0 && got <= 1) || (got > 0) != withinOf(age, span) {
				t.Errorf("Grade(%d, %s) = %s", age, show(span), show(got))
			}
		}
	}
}

func TestNearest(t *testing.T) {
	nan := math.NaN()
	for _, c := range []struct {
		want float64
		list []float64
	}{
		{inf, nil}, {inf, []float64{}}, {inf, []float64{inf}}, {inf, []float64{inf, inf}}, {inf, noSpans()}, {inf, []float64{nan}}, {inf, []float64{-1}}, {inf, []float64{-inf}}, {inf, []float64{-inf, inf}},
		{3, []float64{3}}, {3, []float64{7, nan, 3, -1, inf}}, {3, []float64{3, 7}}, {3, []float64{7, 3}}, {3, []float64{3, 3}}, {3, []float64{inf, 3}}, {3, []float64{3, inf}}, {3, []float64{nan, 3}}, {3, []float64{3, nan}}, {3, []float64{-inf, 3, -tiny}},
		{0, []float64{0}}, {0, []float64{minus}}, {0, []float64{0, minus}}, {0, []float64{minus, 0}}, {0, []float64{7, minus}}, {0, []float64{minus, 7}}, {0, []float64{tiny, minus, -tiny}}, {0, []float64{minus, minus}},
		{tiny, []float64{1, tiny, inf}}, {great, []float64{inf, great}}, {1, []float64{up(1), 1}}, {down(1), []float64{1, down(1), up(1)}},
	} {
		if got := term.Nearest(c.list...); !alike(got, c.want) {
			t.Errorf("Nearest(%v) = %s, want %s", c.list, show(got), show(c.want))
		}
	}
	if got := term.Nearest(); !alike(got, inf) {
		t.Errorf("Nearest() = %s", show(got))
	}
}

func TestNearestOfAllPairsAndWholeLists(t *testing.T) {
	list := numbers()
	for i, a := range list {
		checkNearest(t, a)
		checkNearest(t, list[i:]...)
		checkNearest(t, list[:i]...)
		for _, b := range list {
			checkNearest(t, a, b)
			checkNearest(t, math.NaN(), a, -1, b, -inf)
		}
	}
	many := scatteredSpans(3000)
	checkNearest(t, many...)
	slices.Reverse(many)
	checkNearest(t, many...)
}

func TestNearestIsCleanAndOneOfThem(t *testing.T) {
	for i := range numbers() {
		list := numbers()[i:]
		got := term.Nearest(list...)
		if !alike(real.Clean(got), got) {
			t.Errorf("Nearest(%v) = %s, which isn't clean", list, show(got))
		}
		if !slices.ContainsFunc(list, func(x float64) bool { return real.Same(real.Clean(x), got) }) && !alike(got, inf) {
			t.Errorf("Nearest(%v) = %s, which is none of them", list, show(got))
		}
	}
}

func TestNearestLeavesItsListAlone(t *testing.T) {
	room := append(numbers(), 5, minus, 1)
	list := room[: len(room)-2 : len(room)]
	before := slices.Clone(room)
	first := term.Nearest(list...)
	for i := range room {
		if !alike(room[i], before[i]) {
			t.Errorf("at %d stands %s now", i, show(room[i]))
		}
	}
	if again := term.Nearest(list...); !alike(first, again) {
		t.Errorf("%s, then %s", show(first), show(again))
	}
}

// P6.5

func TestTheOlderTheLessWithin(t *testing.T) {
	ages := wholes()
	for _, bits := range scattered(200) {
		ages = append(ages, int(bits>>1>>(bits%60)))
	}
	ages = slices.DeleteFunc(ages, func(age int) bool { return age < 0 })
	slices.Sort(ages)
	for _, span := range append(numbers(), scatteredSpans(100)...) {
		for i := 1; i < len(ages); i++ {
			younger, older := ages[i-1], ages[i]
			if term.Within(older, span) && !term.Within(younger, span) {
				t.Errorf("within %s is %d, not %d", show(span), older, younger)
			}
			if term.Grade(older, span) > term.Grade(younger, span) {
				t.Errorf("of %s more is left at %d than at %d", show(span), older, younger)
			}
		}
	}
}

func checkTillItsEnd(t *testing.T, at int, span float64) {
	t.Helper()
	end, ok := term.Ends(at, span)
	if !ok {
		if at >= 0 && at <= lastTick && goodOf(span) && !term.Within(lastTick-at, span) {
			t.Errorf("Ends(%d, %s) = false, but it isn't within at the last tick", at, show(span))
		}
		return
	}
	if end < at || end > lastTick {
		t.Errorf("Ends(%d, %s) = %d", at, show(span), end)
	}
	for _, tick := range []int{at, at + (end-at)/2, end - 2, end - 1} {
		if tick >= at && tick < end && !term.Within(tick-at, span) {
			t.Errorf("Ends(%d, %s) = %d, but it isn't within at %d", at, show(span), end, tick)
		}
	}
	for _, tick := range []int{end, end + 1, end + (lastTick-end)/2, lastTick} {
		if term.Within(tick-at, span) {
			t.Errorf("Ends(%d, %s) = %d, but it is within at %d", at, show(span), end, tick)
		}
	}
}

func TestWhatEndsIsWithinTillThen(t *testing.T) {
	list := append(numbers(), scatteredSpans(500)...)
	for _, at := range wholes() {
		for _, span := range list {
			checkTillItsEnd(t, at, span)
		}
	}
}

// The chapter's examples.

func TestExamples(t *testing.T) {
	if !term.Within(9, 9.5) || term.Within(10, 9.5) || !term.Within(1, inf) {
		t.Error("Within is otherwise")
	}
	if end, ok := term.Ends(100, 9.5); end != 110 || !ok {
		t.Errorf("Ends(100, 9.5) = %d, %v", end, ok)
	}
	if end, ok := term.Ends(1, inf); end != 0 || ok {
		t.Errorf("Ends(1, inf) = %d, %v", end, ok)
	}
	if got := term.Wait(1.5, 3); got != 6 {
		t.Errorf("Wait(1.5, 3) = %d", got)
	}
}

// P1, and all of the above at any arguments.

func FuzzSpans(f *testing.F) {
	for _, n := range wholes() {
		f.Add(n, math.Float64bits(9.5), math.Float64bits(minus))
	}
	for _, x := range numbers() {
		f.Add(3, math.Float64bits(x), math.Float64bits(1))
		f.Add(lastTick-3, math.Float64bits(x), uint64(bitsOfNaN))
	}
	f.Fuzz(func(t *testing.T, n int, x, y uint64) {
		for _, span := range []float64{of(x), of(y), float64(n)} {
			checkGood(t, span)
			checkWithin(t, n, span)
			checkEnds(t, n, span)
			checkTillItsEnd(t, n, span)
			checkWait(t, span, n)
			checkWait(t, span, n&127)
			checkGrade(t, n, span)
		}
		checkNearest(t, of(x), of(y), float64(n))
	})
}
