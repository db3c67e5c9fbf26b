package gauge

import (
	"math"
	"math/big"
	"slices"
	"testing"

	"oakum/api"
)

const (
	sign     = uint64(1) << 63
	infinite = uint64(0x7ff0000000000000)
	theNaN   = uint64(0x7ff8000000000000)
)

// edgeBits are bits at which a class, the order, or a range begins or ends, without those of NaN.
func edgeBits() []uint64 {
	above := []uint64{
		0, 1, 2, 3, 1<<51 - 1, 1 << 51, 1<<52 - 2, 1<<52 - 1, // zero and small ones
		1 << 52, 1<<52 + 1, 1<<53 - 1, 1 << 53, // the first normal ones
		infinite - 2, infinite - 1, infinite, // the last ones
	}
	for _, x := range []float64{
		0x1p-1000, 0x1p-64, 0x1p-63, 0x1p-11, 0x1p-10, 0.1, 0.25, 0.5, 1, 1.5, 2, 2.5, 3, 10, 999.5, 1000,
		1 << 20, 1 << 31, 1 << 32, 1 << 51, 1 << 52, 1<<52 + 1, 1 << 53, 1 << 54,
		1 << 61, 1 << 62, 1 << 63, 1 << 64, 0x1p100, 0x1p1000,
		(1 << 62) / 1000.0, 1 << 62 / 999.0, 1 << 62 / 3.0, 1<<62/500.0 + 512,
	} {
		b := math.Float64bits(x)
		above = append(above, b-1, b, b+1)
	}
	slices.Sort(above)
	above = slices.Compact(above)
	all := slices.Clone(above)
	for _, b := range above {
		all = append(all, b|sign)
	}
	return all
}

// nanBits are bits of NaN: both signs, the lowest and highest fractions, quiet and signalling ones.
func nanBits() []uint64 {
	return []uint64{
		infinite + 1, infinite + 2, theNaN - 1, theNaN, theNaN + 1, sign - 1,
		sign | infinite + 1, sign | theNaN - 1, sign | theNaN, sign | theNaN + 1, math.MaxUint64,
	}
}

// someBits are bits from a fixed rule, spread over all classes.
func someBits(n int) []uint64 {
	var l []uint64
	b := uint64(88172645463325252)
	for range n {
		b ^= b << 13
		b ^= b >> 7
		b ^= b << 17
		l = append(l, b)
	}
	return l
}

// middleBits are bits of numbers whose floor and need are mostly in range.
func middleBits(n int) []uint64 {
	l := someBits(n)
	for i, b := range l {
		exponent := 1023 - 70 + b>>52%140
		l[i] = b&(sign|1<<52-1) | exponent<<52
	}
	return l
}

func manyBits() []uint64 {
	return slices.Concat(edgeBits(), nanBits(), someBits(2000), middleBits(2000))
}

func exact(x float64) *big.Rat { return new(big.Rat).SetFloat64(x) }

func floorOf(x *big.Rat) *big.Int { return new(big.Int).Div(x.Num(), x.Denom()) }

func ceilingOf(x *big.Rat) *big.Int {
	n := floorOf(new(big.Rat).Neg(x))
	return n.Neg(n)
}

func limit() *big.Rat { return new(big.Rat).SetInt64(1 << 62) }

// P1.1, G1: Of and Bits.

func TestBitsOfIsThereAndBack(t *testing.T) {
	for _, b := range slices.Concat(edgeBits(), someBits(2000)) {
		want := b
		if b&^sign > infinite {
			want = theNaN
		}
		if got := Bits(Of(b)); got != want {
			t.Errorf("Bits(Of(%x)) = %x, want %x", b, got, want)
		}
	}
}

func TestBitsOfNaNAreOne(t *testing.T) {
	for _, b := range nanBits() {
		if x := Of(b); x == x || Bits(x) != theNaN {
			t.Errorf("Of(%x) = %v with bits %x", b, x, Bits(x))
		}
	}
}

func TestBitsOfKnownNumbers(t *testing.T) {
	for b, x := range map[uint64]float64{
		0:                  0,
		1:                  0x1p-1074,
		1<<52 - 1:          0x1p-1022 - 0x1p-1074,
		1 << 52:            0x1p-1022,
		0x3ff0000000000000: 1,
		0xbfe0000000000000: -0.5,
		0x7fefffffffffffff: math.MaxFloat64,
	} {
		if Of(b) != x || Bits(x) != b {
			t.Errorf("Of(%x) = %v, Bits(%v) = %x", b, Of(b), x, Bits(x))
		}
	}
	if minus := Of(sign); minus != 0 || !math.Signbit(minus) {
		t.Errorf("the 0 with a sign: %v", minus)
	}
	if !math.IsInf(Of(infinite), 1) || !math.IsInf(Of(sign|infinite), -1) {
		t.Error("the infinite ones")
	}
}

// P1.1, G1: Kind.

func TestClassesAreCounted(t *testing.T) {
	for i, c := range []Class{NaN, Infinite, Zero, Small, Normal} {
		if int(c) != i {
			t.Errorf("class %d is counted %d", i, c)
		}
	}
}

func classOf(x float64) Class {
	switch {
	case x != x:
		return NaN
	case math.IsInf(x, 0):
		return Infinite
	case x == 0:
		return Zero
	case math.Abs(x) < 0x1p-1022:
		return Small
	}
	return Normal
}

func TestKind(t *testing.T) {
	for _, b := range manyBits() {
		if x := Of(b); Kind(x) != classOf(x) {
			t.Errorf("Kind of %x is %d, want %d", b, Kind(x), classOf(x))
		}
	}
}

func TestKindAtEdges(t *testing.T) {
	for _, c := range []struct {
		bits uint64
		want Class
	}{
		{0, Zero}, {1, Small}, {1<<52 - 1, Small}, {1 << 52, Normal}, {infinite - 1, Normal},
		{infinite, Infinite}, {infinite + 1, NaN}, {theNaN, NaN}, {sign - 1, NaN},
	} {
		for _, b := range []uint64{c.bits, c.bits | sign} {
			if got := Kind(Of(b)); got != c.want {
				t.Errorf("Kind of %x is %d, want %d", b, got, c.want)
			}
		}
	}
}

// P1.1, G1, and P1.2: Compare.

func TestCompareFollowsTheOrder(t *testing.T) {
	rising := []float64{
		math.Inf(-1), -math.MaxFloat64, -2, -1, -0x1p-1022, Of(sign | 1<<52 - 1), Of(sign | 2), Of(sign | 1), Of(sign),
		0, Of(1), Of(2), Of(1<<52 - 1), 0x1p-1022, 1, 2, math.MaxFloat64, math.Inf(1), Of(theNaN),
	}
	for i, a := range rising {
		for j, b := range rising {
			want := 0
			if i < j {
				want = -1
			} else if i > j {
				want = 1
			}
			if got := Compare(a, b); got != want {
				t.Errorf("Compare(%v, %v) = %d, want %d", a, b, got, want)
			}
		}
	}
}

func TestCompareHoldsAllNaNAlike(t *testing.T) {
	for _, a := range nanBits() {
		for _, b := range nanBits() {
			if got := Compare(Of(a), Of(b)); got != 0 {
				t.Errorf("Compare(%x, %x) = %d", a, b, got)
			}
		}
		for _, b := range edgeBits() {
			if Compare(Of(a), Of(b)) != 1 || Compare(Of(b), Of(a)) != -1 {
				t.Errorf("%x is not behind %x", a, b)
			}
		}
	}
}

func TestCompareAgreesWithGo(t *testing.T) {
	l := slices.Concat(edgeBits(), someBits(100))
	for _, i := range l {
		for _, j := range l {
			a, b := Of(i), Of(j)
			if a < b && Compare(a, b) != -1 || a > b && Compare(a, b) != 1 {
				t.Errorf("Compare(%v, %v) = %d", a, b, Compare(a, b))
			}
			if a == b && a != 0 && Compare(a, b) != 0 {
				t.Errorf("Compare(%v, %v) = %d", a, b, Compare(a, b))
			}
		}
	}
}

func TestCompareIsAnOrder(t *testing.T) {
	l := slices.Concat(edgeBits(), nanBits(), someBits(50))
	for _, i := range l {
		for _, j := range l {
			c := Compare(Of(i), Of(j))
			if c < -1 || c > 1 || Compare(Of(j), Of(i)) != -c {
				t.Errorf("Compare of %x and %x is %d, and back %d", i, j, c, Compare(Of(j), Of(i)))
			}
			if alike := Bits(Of(i)) == Bits(Of(j)); alike != (c == 0) {
				t.Errorf("Compare of %x and %x is %d", i, j, c)
			}
		}
	}
	for _, i := range l {
		for _, j := range l {
			if Compare(Of(i), Of(j)) > 0 {
				continue
			}
			for _, k := range l {
				if Compare(Of(j), Of(k)) <= 0 && Compare(Of(i), Of(k)) > 0 {
					t.Fatalf("%x, %x, %x are in no order", i, j, k)
				}
			}
		}
	}
}

// P1.1, G1: Least.

func TestLeast(t *testing.T) {
	nan, minus := Of(theNaN), Of(sign)
	for _, c := range []struct {
		l    []float64
		want float64
	}{
		{[]float64{3}, 3},
		{[]float64{3, 1, 2}, 1},
		{[]float64{1, 1}, 1},
		{[]float64{0, minus, 3}, minus},
		{[]float64{minus, 0}, minus},
		{[]float64{nan, 0}, 0},
		{[]float64{2, nan, 1, nan}, 1},
		{[]float64{nan, math.Inf(1), nan}, math.Inf(1)},
		{[]float64{math.Inf(1), math.Inf(-1), -math.MaxFloat64}, math.Inf(-1)},
		{[]float64{Of(sign | 1), minus, Of(sign | 2), 0}, Of(sign | 2)},
		{[]float64{Of(2), Of(1), 1}, Of(1)},
	} {
		given := slices.Clone(c.l)
		got, ok := Least(given...)
		if !ok || Bits(got) != Bits(c.want) {
			t.Errorf("Least(%v) = %v, %v, want %v", c.l, got, ok, c.want)
		}
		if !slices.EqualFunc(given, c.l, func(a, b float64) bool { return Bits(a) == Bits(b) }) {
			t.Errorf("Least wrote into %v: %v", c.l, given)
		}
	}
}

func TestLeastOfNone(t *testing.T) {
	for _, l := range [][]float64{nil, {}, {Of(theNaN)}, {Of(sign | infinite + 1), Of(sign - 1)}} {
		if x, ok := Least(l...); ok || Bits(x) != 0 {
			t.Errorf("Least(%v) = %v, %v", l, x, ok)
		}
	}
}

func TestLeastIsBehindNone(t *testing.T) {
	l := manyBits()
	for i := 0; i+7 <= len(l); i++ {
		var some []float64
		for _, b := range l[i : i+7] {
			some = append(some, Of(b))
		}
		least, ok := Least(some...)
		there := false
		for _, x := range some {
			there = there || x == x && Bits(x) == Bits(least)
			if x == x && (!ok || Compare(x, least) < 0) {
				t.Errorf("Least(%v) = %v, %v", some, least, ok)
			}
		}
		if ok != there {
			t.Errorf("Least(%v) = %v, %v, which is not there", some, least, ok)
		}
	}
}

// P1.1, G2: Floor.

func TestFloorAgainstExact(t *testing.T) {
	for _, b := range manyBits() {
		x := Of(b)
		got, err := Floor(x)
		if x != x || math.IsInf(x, 0) || new(big.Rat).Abs(exact(x)).Cmp(limit()) >= 0 {
			if got != 0 || err != api.ErrRange {
				t.Errorf("Floor(%v) = %d, %d, want ErrRange", x, got, err)
			}
			continue
		}
		if want := floorOf(exact(x)); err != api.OK || want.Cmp(big.NewInt(got)) != 0 {
			t.Errorf("Floor(%v) = %d, %d, want %v", x, got, err, want)
		}
	}
}

func TestFloorAtEdges(t *testing.T) {
	below := math.Nextafter(1<<62, 0)
	for _, c := range []struct {
		x    float64
		want int64
		err  api.Errno
	}{
		{0, 0, api.OK}, {Of(sign), 0, api.OK}, {Of(1), 0, api.OK}, {Of(sign | 1), -1, api.OK},
		{0.5, 0, api.OK}, {-0.5, -1, api.OK}, {1, 1, api.OK}, {-1, -1, api.OK},
		{1.5, 1, api.OK}, {-1.5, -2, api.OK}, {math.Nextafter(2, 0), 1, api.OK}, {math.Nextafter(-2, -3), -3, api.OK},
		{below, 1<<62 - 512, api.OK}, {-below, 512 - 1<<62, api.OK},
		{1 << 62, 0, api.ErrRange}, {-1 << 62, 0, api.ErrRange}, {1 << 63, 0, api.ErrRange}, {-1 << 63, 0, api.ErrRange},
		{math.MaxFloat64, 0, api.ErrRange}, {-math.MaxFloat64, 0, api.ErrRange},
		{math.Inf(1), 0, api.ErrRange}, {math.Inf(-1), 0, api.ErrRange},
		{Of(theNaN), 0, api.ErrRange}, {Of(sign | infinite + 1), 0, api.ErrRange},
	} {
		if got, err := Floor(c.x); got != c.want || err != c.err {
			t.Errorf("Floor(%v) = %d, %d, want %d, %d", c.x, got, err, c.want, c.err)
		}
	}
}

// P1.1, G2, and P1.3: Ratio.

func TestRatio(t *testing.T) {
	for _, c := range []struct {
		a, b int64
		want float64
	}{
		{1, 2, 0.5}, {-1, 2, -0.5}, {1, -4, -0.25}, {-6, -3, 2}, {0, 5, 0}, {0, -5, Of(sign)},
		{1, 3, 1.0 / 3}, {1, 10, 0.1},
		{1<<53 + 1, 1, 1 << 53}, {1<<53 + 3, 1, 1<<53 + 4}, {math.MaxInt64, 1, 1 << 63}, {math.MinInt64, 1, -1 << 63},
		{math.MaxInt64, math.MinInt64, -1}, {math.MinInt64, -1, 1 << 63},
		{1, 0, math.Inf(1)}, {-1, 0, math.Inf(-1)}, {math.MaxInt64, 0, math.Inf(1)}, {math.MinInt64, 0, math.Inf(-1)},
		{0, 0, math.NaN()},
	} {
		if got := Ratio(c.a, c.b); Bits(got) != Bits(c.want) {
			t.Errorf("Ratio(%d, %d) = %v, want %v", c.a, c.b, got, c.want)
		}
	}
}

func TestRatioByZeroIsInfiniteOrNaN(t *testing.T) {
	for a := int64(-1 << 20); a <= 1<<20; a += 997 {
		want := Infinite
		if a == 0 {
			want = NaN
		}
		x := Ratio(a, 0)
		if Kind(x) != want || want == Infinite && x > 0 != (a > 0) {
			t.Errorf("Ratio(%d, 0) = %v", a, x)
		}
	}
	if Kind(Ratio(0, 0)) != NaN {
		t.Error("Ratio(0, 0)")
	}
}

func floorDiv(a, b int64) int64 {
	q := a / b
	if a%b != 0 && (a < 0) != (b < 0) {
		q--
	}
	return q
}

func TestFloorOfRatioIsTheirs(t *testing.T) {
	const most = 1 << 20
	var l []int64
	for n := int64(0); n <= 40; n++ {
		l = append(l, n, most-n, 1<<10+n, 349525+n)
	}
	for _, b := range someBits(150) {
		l = append(l, int64(b%(most+1)))
	}
	for _, a := range l {
		for _, b := range l {
			if b == 0 {
				continue
			}
			for _, s := range [][2]int64{{a, b}, {-a, b}, {a, -b}, {-a, -b}, {most - most%b, b}, {most - most%b - 1, b}} {
				want := floorDiv(s[0], s[1])
				if got, err := Floor(Ratio(s[0], s[1])); got != want || err != api.OK {
					t.Fatalf("Floor(Ratio(%d, %d)) = %d, %d, want %d", s[0], s[1], got, err, want)
				}
			}
		}
	}
}

// P1.1, G2: Need.

func checkNeed(t *testing.T, rate float64, n int) {
	t.Helper()
	got, err := Need(rate, n)
	if rate != rate || math.IsInf(rate, 0) || rate < 0 || n < 0 || n > 1000 {
		if got != 0 || err != api.ErrArg {
			t.Errorf("Need(%v, %d) = %d, %d, want ErrArg", rate, n, got, err)
		}
		return
	}
	product := new(big.Rat).Mul(exact(rate), new(big.Rat).SetInt64(int64(n)))
	if product.Cmp(limit()) >= 0 {
		if got != 0 || err != api.ErrRange {
			t.Errorf("Need(%v, %d) = %d, %d, want ErrRange", rate, n, got, err)
		}
		return
	}
	if want := ceilingOf(product); err != api.OK || want.Cmp(big.NewInt(got)) != 0 {
		t.Errorf("Need(%v, %d) = %d, %d, want %v", rate, n, got, err, want)
	}
}

func TestNeedAgainstExact(t *testing.T) {
	counts := []int{math.MinInt, -1 << 32, -1, 0, 1, 2, 3, 10, 500, 512, 999, 1000, 1001, 1024, 1<<32 + 1, math.MaxInt}
	for _, b := range slices.Concat(edgeBits(), nanBits(), middleBits(1500), someBits(200)) {
		for _, n := range counts {
			checkNeed(t, Of(b), n)
		}
	}
}

func TestNeedAtEdges(t *testing.T) {
	minus, tiny, most := Of(sign), Of(1), math.MaxFloat64
	for _, c := range []struct {
		rate float64
		n    int
		want int64
		err  api.Errno
	}{
		{0, 0, 0, api.OK}, {0, 1000, 0, api.OK}, {minus, 0, 0, api.OK}, {minus, 1000, 0, api.OK},
		{tiny, 0, 0, api.OK}, {tiny, 1, 1, api.OK}, {tiny, 1000, 1, api.OK}, {most, 0, 0, api.OK},
		{1, 1000, 1000, api.OK}, {2.5, 2, 5, api.OK}, {2.5, 3, 8, api.OK}, {0.5, 1, 1, api.OK},
		{0.001, 1000, 2, api.OK}, // it stands above a thousandth
		{0.1, 10, 2, api.OK},     // and it above a tenth
		{0.3, 10, 3, api.OK},     // and it below three tenths
		{1<<52 + 1, 1000, 1000 * (1<<52 + 1), api.OK},
		{1<<53 - 1, 511, 511 * (1<<53 - 1), api.OK}, {1<<53 - 1, 512, 1<<62 - 512, api.OK},
		{1<<53 - 1, 513, 0, api.ErrRange}, {1 << 53, 512, 0, api.ErrRange},
		{1 << 61, 1, 1 << 61, api.OK}, {1 << 61, 2, 0, api.ErrRange}, {1 << 62, 1, 0, api.ErrRange}, {1 << 62, 0, 0, api.OK},
		{math.Nextafter(1<<62, 0), 1, 1<<62 - 512, api.OK}, {0x1p70, 1, 0, api.ErrRange}, {0x1p64, 1000, 0, api.ErrRange},
		{most, 1, 0, api.ErrRange}, {most, 1000, 0, api.ErrRange},
		{-1, 0, 0, api.ErrArg}, {Of(sign | 1), 1, 0, api.ErrArg}, {-most, 0, 0, api.ErrArg},
		{math.Inf(1), 0, 0, api.ErrArg}, {math.Inf(-1), 1, 0, api.ErrArg},
		{Of(theNaN), 1, 0, api.ErrArg}, {Of(sign | infinite + 1), 0, 0, api.ErrArg},
		{1, -1, 0, api.ErrArg}, {1, 1001, 0, api.ErrArg}, {0, 1001, 0, api.ErrArg}, {minus, -1, 0, api.ErrArg},
		{most, 1001, 0, api.ErrArg}, {1, math.MinInt, 0, api.ErrArg}, {1, math.MaxInt, 0, api.ErrArg},
	} {
		if got, err := Need(c.rate, c.n); got != c.want || err != c.err {
			t.Errorf("Need(%v, %d) = %d, %d, want %d, %d", c.rate, c.n, got, err, c.want, c.err)
		}
	}
}

// P1 and P2: no call panics, and each answers the same again.

type answers struct {
	bits, ratio      uint64
	kind             Class
	compare          int
	least            uint64
	found            bool
	floor, need      int64
	floorErr, needed api.Errno
}

func ask(i, j uint64) answers {
	var a answers
	x, y := Of(i), Of(j)
	a.bits, a.kind, a.compare = Bits(x), Kind(x), Compare(x, y)
	least, found := Least(x, y, x)
	a.least, a.found = Bits(least), found
	a.floor, a.floorErr = Floor(x)
	a.ratio = Bits(Ratio(int64(i), int64(j)))
	a.need, a.needed = Need(x, int(j%2000)-500)
	return a
}

func TestCallsAnswerTheSameAgain(t *testing.T) {
	l := slices.Concat(edgeBits(), nanBits(), someBits(100))
	var first []answers
	for _, i := range l {
		for _, j := range l {
			first = append(first, ask(i, j))
		}
	}
	for n := len(first) - 1; n >= 0; n-- {
		if i, j := l[n/len(l)], l[n%len(l)]; ask(i, j) != first[n] {
			t.Fatalf("%x and %x answer otherwise the second time", i, j)
		}
	}
}
