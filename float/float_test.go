package float

import (
	"math"
	"math/big"
	"math/rand"
	"slices"
	"testing"

	"esker/api"
)

const (
	bitsOfStale     = 0x7FF0_0000_0000_0002
	bitsOfPlusInf   = 0x7FF0_0000_0000_0000
	bitsOfMinusInf  = 0xFFF0_0000_0000_0000
	bitsOfMinusZero = 0x8000_0000_0000_0000
)

func num(m int64, e int) api.Value { return api.Value{M: m, E: e} }

func kind(s int) api.Value { return api.Value{S: s} }

// wrong holds values that may not be, at least one for each word that rules one out.
func wrong() []api.Value {
	return []api.Value{
		{M: 10}, {M: -10}, {M: 100, E: -2}, {M: 999999999999990}, {M: -999999999999990, E: 3},
		{M: 1e15}, {M: -1e15}, {M: 1e15 + 1}, {M: -1e15 - 1},
		{M: math.MaxInt64}, {M: math.MinInt64}, {M: math.MinInt64 + 1},
		{E: 1}, {E: -1}, {E: -300}, {E: 290}, {E: math.MaxInt}, {E: math.MinInt},
		{M: 1, E: 291}, {M: 1, E: -301}, {M: -7, E: 291}, {M: -7, E: -301},
		{M: 1, E: 1000}, {M: 1, E: math.MaxInt}, {M: 1, E: math.MinInt},
		{S: -1}, {S: 5}, {S: math.MaxInt}, {S: math.MinInt}, {M: 1, S: -1}, {M: 1, S: 5},
		{M: 1, S: api.Stale}, {E: 1, S: api.Stale}, {M: 1, S: api.PlusInf}, {E: -1, S: api.PlusInf},
		{M: -1, S: api.MinusInf}, {E: 1, S: api.MinusInf}, {M: -1, S: api.MinusZero}, {E: 1, S: api.MinusZero},
		{M: 1, E: 1, S: api.MinusZero},
	}
}

// right holds values that may be: both ends of what may be, all kinds, all exponents, and many from a fixed seed.
func right() []api.Value {
	l := []api.Value{
		{}, kind(api.Stale), kind(api.PlusInf), kind(api.MinusInf), kind(api.MinusZero),
	}
	for e := -300; e <= 290; e++ {
		for _, m := range []int64{1, 2, 9, 11, 999999999999999, 999999999999998, 100000000000001} {
			l = append(l, num(m, e), num(-m, e))
		}
	}
	r := rand.New(rand.NewSource(2))
	for len(l) < 30000 {
		m := r.Int63n(1e15) >> r.Intn(50)
		if r.Intn(2) == 0 {
			m = -m
		}
		if m%10 != 0 {
			l = append(l, num(m, r.Intn(591)-300))
		}
	}
	return l
}

// exact is a number without any rounding.
func exact(v api.Value) *big.Rat {
	power := new(big.Int).Exp(big.NewInt(10), big.NewInt(int64(max(v.E, -v.E))), nil)
	m := new(big.Rat).SetInt64(v.M)
	if v.E < 0 {
		return m.Quo(m, new(big.Rat).SetInt(power))
	}
	return m.Mul(m, new(big.Rat).SetInt(power))
}

// nearestBits finds the bits of a number above 0 without any float: by halves among all bits, and by the distances to both neighbours.
func nearestBits(v api.Value) uint64 {
	want := exact(v)
	below, above := uint64(0), uint64(bitsOfPlusInf-1)
	for below+1 < above {
		half := below + (above-below)/2
		if ratOf(half).Cmp(want) <= 0 {
			below = half
		} else {
			above = half
		}
	}
	down := new(big.Rat).Sub(want, ratOf(below))
	up := new(big.Rat).Sub(ratOf(above), want)
	switch c := down.Cmp(up); {
	case c < 0, c == 0 && below%2 == 0:
		return below
	}
	return above
}

// ratOf is the number that bits stand for, by IEEE 754's words.
func ratOf(bits uint64) *big.Rat {
	m, power := int64(bits%(1<<52)), int(bits>>52)
	if power > 0 {
		m += 1 << 52
	} else {
		power = 1
	}
	r := new(big.Rat).SetInt64(m)
	two := new(big.Rat).SetInt(new(big.Int).Lsh(big.NewInt(1), uint(max(power-1075, 1075-power))))
	if power < 1075 {
		return r.Quo(r, two)
	}
	return r.Mul(r, two)
}

func mustBits(t *testing.T, v api.Value) uint64 {
	t.Helper()
	b, e := Bits(v)
	if e != api.OK {
		t.Fatalf("Bits(%v) = %d, %d, want no error", v, b, e)
	}
	return b
}

// P2.1

func TestRight(t *testing.T) {
	for _, v := range right() {
		if !Right(v) {
			t.Errorf("Right(%v) = false", v)
		}
	}
	for _, v := range wrong() {
		if Right(v) {
			t.Errorf("Right(%v) = true", v)
		}
	}
}

func TestRightAtTheEnds(t *testing.T) {
	for _, c := range []struct {
		v    api.Value
		want bool
	}{
		{num(999999999999999, 0), true}, {num(1000000000000000, 0), false}, {num(1000000000000001, 0), false},
		{num(-999999999999999, 0), true}, {num(-1000000000000000, 0), false}, {num(-1000000000000001, 0), false},
		{num(1, -300), true}, {num(1, -301), false}, {num(1, 290), true}, {num(1, 291), false},
		{num(0, 0), true}, {num(0, 1), false}, {num(0, -1), false},
		{kind(-1), false}, {kind(0), true}, {kind(1), true}, {kind(4), true}, {kind(5), false},
	} {
		if got := Right(c.v); got != c.want {
			t.Errorf("Right(%v) = %v", c.v, got)
		}
	}
}

func TestClean(t *testing.T) {
	for _, c := range []struct {
		m    int64
		e    int
		want api.Value
		is   bool
	}{
		{1500, -1, num(15, 1), true},
		{-1500, -1, num(-15, 1), true},
		{15, 1, num(15, 1), true},
		{1, 0, num(1, 0), true},
		{0, 0, api.Value{}, true}, {0, 7, api.Value{}, true}, {0, -1000, api.Value{}, true}, {0, 1000, api.Value{}, true},
		{0, 1001, api.Value{}, false}, {0, -1001, api.Value{}, false},
		{0, math.MaxInt, api.Value{}, false}, {0, math.MinInt, api.Value{}, false},
		{999999999999999, 0, num(999999999999999, 0), true}, {-999999999999999, 0, num(-999999999999999, 0), true},
		{9999999999999990, 0, num(999999999999999, 1), true},
		{1e15, 0, num(1, 15), true}, {1e15 + 1, 0, api.Value{}, false}, {-1e15 - 1, 0, api.Value{}, false},
		{1e18, 0, num(1, 18), true}, {9e18, -18, num(9, 0), true},
		{math.MaxInt64, 0, api.Value{}, false}, {math.MinInt64, 0, api.Value{}, false},
		{9223372036854775800, 0, api.Value{}, false},
		{-9223372036854770000, 0, num(-922337203685477, 4), true},
		{1, 290, num(1, 290), true}, {1, 291, api.Value{}, false}, {10, 289, num(1, 290), true}, {10, 290, api.Value{}, false},
		{1, -300, num(1, -300), true}, {1, -301, api.Value{}, false}, {10, -301, num(1, -300), true}, {15, -301, api.Value{}, false},
		{1e18, -318, num(1, -300), true}, {1e18, -319, api.Value{}, false}, {1e18, 272, num(1, 290), true}, {1e18, 273, api.Value{}, false},
		{1, 1000, api.Value{}, false}, {1, -1000, api.Value{}, false}, {1, 1001, api.Value{}, false}, {1, -1001, api.Value{}, false},
		{10, math.MaxInt, api.Value{}, false}, {10, math.MinInt, api.Value{}, false},
	} {
		if got, is := Clean(c.m, c.e); got != c.want || is != c.is {
			t.Errorf("Clean(%d, %d) = %v, %v, want %v, %v", c.m, c.e, got, is, c.want, c.is)
		}
	}
}

// Whatever is given: the answer may be and is the same number, or there is none that is.
func TestCleanIsTheSameNumber(t *testing.T) {
	r := rand.New(rand.NewSource(3))
	for range 20000 {
		m := int64(r.Uint64()) >> r.Intn(60)
		for range r.Intn(19) {
			if m > -math.MaxInt64/10 && m < math.MaxInt64/10 {
				m *= 10
			}
		}
		e := r.Intn(660) - 330
		got, is := Clean(m, e)
		if !Right(got) || !is && got != (api.Value{}) {
			t.Fatalf("Clean(%d, %d) = %v, %v: it may not be", m, e, got, is)
		}
		short, more := m, e
		for short != 0 && short%10 == 0 {
			short, more = short/10, more+1
		}
		want := short == 0 || short > -1e15 && short < 1e15 && more >= -300 && more <= 290
		if is != want {
			t.Fatalf("Clean(%d, %d) = %v, %v, want %v", m, e, got, is, want)
		}
		if is && exact(got).Cmp(exact(num(m, e))) != 0 {
			t.Fatalf("Clean(%d, %d) = %v: another number", m, e, got)
		}
	}
}

func TestCleanOfAValueThatMayBeIsThatValue(t *testing.T) {
	for _, v := range right() {
		if v.S != api.Number {
			continue
		}
		if got, is := Clean(v.M, v.E); !is || got != v {
			t.Errorf("Clean(%d, %d) = %v, %v", v.M, v.E, got, is)
		}
	}
}

// P2.2

func TestBitsOfKnownValues(t *testing.T) {
	for _, c := range []struct {
		v    api.Value
		want uint64
	}{
		{num(15, -1), 4609434218613702656},
		{num(0, 0), 0},
		{num(1, 0), 0x3FF0_0000_0000_0000},
		{num(-1, 0), 0xBFF0_0000_0000_0000},
		{num(1, -1), 0x3FB9_9999_9999_999A},
		{num(3, -1), 0x3FD3_3333_3333_3333},
		{num(999999999999999, 290), math.Float64bits(999999999999999e290)},
		{num(-999999999999999, 290), math.Float64bits(-999999999999999e290)},
		{num(1, -300), math.Float64bits(1e-300)},
		{num(1, 23), math.Float64bits(1e23)},
		{kind(api.Stale), bitsOfStale},
		{kind(api.PlusInf), bitsOfPlusInf},
		{kind(api.MinusInf), bitsOfMinusInf},
		{kind(api.MinusZero), bitsOfMinusZero},
	} {
		if got, e := Bits(c.v); got != c.want || e != api.OK {
			t.Errorf("Bits(%v) = %#x, %d, want %#x", c.v, got, e, c.want)
		}
		if got, is := Of(c.want); got != c.v || !is {
			t.Errorf("Of(%#x) = %v, %v, want %v", c.want, got, is, c.v)
		}
	}
}

func TestBitsOfAValueThatMayNotBe(t *testing.T) {
	for _, v := range wrong() {
		if got, e := Bits(v); got != 0 || e != api.ErrValue {
			t.Errorf("Bits(%v) = %d, %d, want 0, %d", v, got, e, api.ErrValue)
		}
	}
}

func TestBitsAreTheNearest(t *testing.T) {
	for i, v := range right() {
		if v.S != api.Number || v.M <= 0 || i%7 != 0 {
			continue
		}
		if got, want := mustBits(t, v), nearestBits(v); got != want {
			t.Errorf("Bits(%v) = %#x, want %#x", v, got, want)
		}
	}
}

// Odd numbers of 54 bits lie in the middle of two doubles; ten's powers bring them about.
func TestBitsOfTwoAsNearOnesAreEven(t *testing.T) {
	r := rand.New(rand.NewSource(4))
	up, down := 0, 0
	for e := 2; e <= 22; e++ {
		five := int64(math.Pow(5, float64(e)))
		for range 60 {
			m := (r.Int63n(1<<53)+1<<53)/five | 1
			whole := new(big.Int).Mul(big.NewInt(m), big.NewInt(five))
			if m >= 1e15 || whole.BitLen() != 54 {
				continue
			}
			v := num(m, e)
			got := mustBits(t, v)
			if got%2 != 0 || got != nearestBits(v) {
				t.Errorf("Bits(%v) = %#x: not the even one", v, got)
			}
			if ratOf(got).Cmp(exact(v)) > 0 {
				up++
			} else {
				down++
			}
		}
	}
	if up < 100 || down < 100 {
		t.Fatalf("%d upwards, %d downwards: too few", up, down)
	}
}

func TestOfBitsThatNoValueHas(t *testing.T) {
	for _, f := range []float64{
		1.0 / 3, 2.0 / 3, -1.0 / 3, math.Pi, 5e-324, -5e-324, math.MaxFloat64, -math.MaxFloat64,
		math.Nextafter(1, 2), math.Nextafter(0.1, 0), math.Nextafter(1e-300, 0), math.Nextafter(999999999999999e290, math.Inf(1)),
		1e291, 1e300, 1e305, 1e308, 1e-301, -1e-301, 15e-301, 2.2250738585072014e-308, 1 << 53, 1<<53 - 1, 1e15 + 1, 123456789012345.6,
	} {
		if got, is := Of(math.Float64bits(f)); is || got != (api.Value{}) {
			t.Errorf("Of(%v) = %v, %v, want none", f, got, is)
		}
	}
	for _, b := range []uint64{
		bitsOfPlusInf + 1, bitsOfStale + 1, bitsOfStale + bitsOfMinusZero, bitsOfMinusInf + 1, 0x7FF8_0000_0000_0000,
		0x7FF8_0000_0000_0001, 0x7FFF_FFFF_FFFF_FFFF, math.MaxUint64, 1, bitsOfMinusZero + 1, bitsOfPlusInf - 1, bitsOfMinusInf - 1,
	} {
		if got, is := Of(b); is || got != (api.Value{}) {
			t.Errorf("Of(%#x) = %v, %v, want none", b, got, is)
		}
	}
}

func TestOfTheEndsOfLengthAndPower(t *testing.T) {
	for _, c := range []struct {
		f    float64
		want api.Value
	}{
		{1e15, num(1, 15)}, {1e290, num(1, 290)}, {123e290, num(123, 290)}, {123456789012345e-300, num(123456789012345, -300)},
		{0.000001, num(1, -6)}, {1234567.0, num(1234567, 0)}, {-0.5, num(-5, -1)}, {-120, num(-12, 1)}, {99999999999999.9, num(999999999999999, -1)},
	} {
		if got, is := Of(math.Float64bits(c.f)); !is || got != c.want {
			t.Errorf("Of(%v) = %v, %v, want %v", c.f, got, is, c.want)
		}
	}
}

// Bits of all kinds: what Of answers has them, and what it doesn't answer has none of the two decimals of 15 digits beside it.
func TestOfIsTheOnlyOneThatHasThem(t *testing.T) {
	r := rand.New(rand.NewSource(5))
	found := 0
	for i := range 30000 {
		bits := r.Uint64()
		if i%3 == 0 {
			bits = math.Float64bits(float64(r.Int63n(1e15)>>r.Intn(50)) / float64(int64(1)<<r.Intn(20)))
		}
		got, is := Of(bits)
		if is {
			found++
			if mustBits(t, got) != bits {
				t.Fatalf("Of(%#x) = %v, which has other bits", bits, got)
			}
			continue
		}
		if got != (api.Value{}) {
			t.Fatalf("Of(%#x) = %v, false", bits, got)
		}
		for _, near := range beside(bits) {
			if b, _ := Bits(near); b == bits {
				t.Fatalf("Of(%#x) = none, but %v has them", bits, near)
			}
		}
	}
	if found < 1000 {
		t.Fatalf("only %d were found", found)
	}
}

// beside is the values of 15 digits around a double, below and above.
func beside(bits uint64) []api.Value {
	f := math.Abs(math.Float64frombits(bits))
	if math.IsNaN(f) || f < 1e-300 || f > 1e305 {
		return nil
	}
	e := int(math.Floor(math.Log10(f))) - 14
	m, _ := new(big.Float).Quo(new(big.Float).SetRat(ratOf(bits&^bitsOfMinusZero)), new(big.Float).SetRat(exact(num(1, e)))).Int64()
	var l []api.Value
	for d := int64(-1); d <= 2; d++ {
		for _, sign := range []int64{1, -1} {
			if v, is := Clean(sign*(m+d), e); is {
				l = append(l, v)
			}
		}
	}
	return l
}

// P2.3

func TestCompareIsByBits(t *testing.T) {
	rising := []api.Value{
		{}, num(1, -300), num(1, -1), num(15, -1), num(2, 0), num(1, 1), num(999999999999999, 290),
		kind(api.PlusInf), kind(api.Stale),
		kind(api.MinusZero), num(-1, -300), num(-1, 0), num(-2, 0), num(-999999999999999, 290), kind(api.MinusInf),
	}
	for i, a := range rising {
		for j, b := range rising {
			want := 0
			if i < j {
				want = -1
			} else if i > j {
				want = 1
			}
			if got := Compare(a, b); got != want {
				t.Errorf("Compare(%v, %v) = %d, want %d", a, b, got, want)
			}
		}
	}
}

func TestCompareOfValuesThatMayNotBe(t *testing.T) {
	for _, v := range wrong() {
		for _, w := range append(wrong(), api.Value{}) {
			if got := Compare(v, w); got != 0 {
				t.Errorf("Compare(%v, %v) = %d, want 0", v, w, got)
			}
		}
		for _, w := range []api.Value{num(1, -300), num(-1, 0), kind(api.MinusZero), kind(api.Stale)} {
			if down, up := Compare(v, w), Compare(w, v); down != -1 || up != 1 {
				t.Errorf("Compare of %v and %v = %d, %d, want -1, 1", v, w, down, up)
			}
		}
	}
}

// P2.4

func TestBitsOfAValueAreOfThatValue(t *testing.T) {
	for _, v := range right() {
		if got, is := Of(mustBits(t, v)); !is || got != v {
			t.Errorf("Of(Bits(%v)) = %v, %v", v, got, is)
		}
	}
}

func TestGreaterNumbersHaveGreaterBits(t *testing.T) {
	type row struct {
		v    api.Value
		size *big.Rat
	}
	var l []row
	for i, v := range right() {
		if v.M > 0 && i%5 == 0 {
			l = append(l, row{v, exact(v)})
		}
	}
	slices.SortFunc(l, func(a, b row) int { return a.size.Cmp(b.size) })
	l = slices.CompactFunc(l, func(a, b row) bool { return a.v == b.v })
	for i := 1; i < len(l); i++ {
		below, above := mustBits(t, l[i-1].v), mustBits(t, l[i].v)
		if below >= above || below == 0 || above >= bitsOfPlusInf || Compare(l[i-1].v, l[i].v) != -1 {
			t.Errorf("%v has %#x, %v has %#x", l[i-1].v, below, l[i].v, above)
		}
	}
}

// Numbers that differ in the last of 15 digits are the nearest that there are.
func TestNeighboursHaveBitsOfTheirOwn(t *testing.T) {
	for e := -300; e <= 290; e++ {
		for _, m := range []int64{100000000000001, 899999999999998, 999999999999998} {
			if a, b := num(m, e), num(m+1, e); Compare(a, b) != -1 || Compare(b, a) != 1 {
				t.Errorf("%v isn't below %v", a, b)
			}
		}
	}
}

func TestANumberBelow0HasThoseOfItsOpposite(t *testing.T) {
	for _, v := range right() {
		if v.M == 0 {
			continue
		}
		if a, b := mustBits(t, v), mustBits(t, num(-v.M, v.E)); a^b != 1<<63 || a>>63 == 1 != (v.M < 0) {
			t.Errorf("%v has %#x, its opposite %#x", v, a, b)
		}
	}
}
