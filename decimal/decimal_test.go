package decimal

import (
	"math"
	"math/big"
	"math/rand"
	"slices"
	"testing"

	"esker/api"
	"esker/float"
)

const (
	stale     = math.MinInt64 + 1
	plusInf   = math.MinInt64 + 2
	minusInf  = math.MinInt64 + 3
	minusZero = math.MinInt64 + 4
)

func num(m int64, e int) api.Value { return api.Value{M: m, E: e} }

func kind(s int) api.Value { return api.Value{S: s} }

// wrong holds values that may not be.
func wrong() []api.Value {
	return []api.Value{
		num(10, 0), num(-10, 0), num(1e15, 0), num(-1e15, 0), num(1e15+1, 0), num(math.MaxInt64, 0), num(math.MinInt64, 0), num(stale, 0),
		num(1, 291), num(1, -301), num(0, 1), num(0, -1), num(1, math.MaxInt), num(1, math.MinInt),
		kind(-1), kind(5), kind(math.MaxInt), kind(math.MinInt), {M: 1, S: api.Stale}, {E: 1, S: api.MinusZero},
	}
}

// multiple is a number as a multiple of 10 to the power of e, and whether it is a whole one.
func multiple(v api.Value, e int) (*big.Int, bool) {
	if v.E < e {
		return nil, false
	}
	power := new(big.Int).Exp(big.NewInt(10), big.NewInt(int64(v.E-e)), nil)
	return power.Mul(power, big.NewInt(v.M)), true
}

// haveOne tells by the document's words whether values have one exponent.
func haveOne(l []api.Value, e int) bool {
	// First of all: an exponent that may not be would make the multiples of the others endless.
	for _, v := range l {
		if !float.Right(v) {
			return false
		}
	}
	bound := big.NewInt(1e18)
	for _, v := range l {
		if v.S != api.Number || v.M == 0 {
			continue
		}
		if m, whole := multiple(v, e); !whole || m.CmpAbs(bound) >= 0 {
			return false
		}
	}
	return true
}

// theirs is the least exponent of the numbers that aren't 0.
func theirs(l []api.Value) int {
	var exponents []int
	for _, v := range l {
		if v.M != 0 {
			exponents = append(exponents, v.E)
		}
	}
	if len(exponents) == 0 {
		return 0
	}
	return slices.Min(exponents)
}

// packed is what Pack is to answer, found from the longest beginning downwards.
func packed(l []api.Value) ([]int64, int, int) {
	n := len(l)
	for !haveOne(l[:n], theirs(l[:n])) {
		n--
	}
	e := theirs(l[:n])
	m := []int64{}
	for _, v := range l[:n] {
		switch {
		case v.S != api.Number:
			m = append(m, math.MinInt64+int64(v.S))
		case v.M == 0:
			m = append(m, 0)
		default:
			b, _ := multiple(v, e)
			m = append(m, b.Int64())
		}
	}
	return m, e, n
}

// anyList is values of which most are near each other, so that some lists have one exponent and some stop within.
func anyList(r *rand.Rand) []api.Value {
	l := make([]api.Value, 0, 12)
	around, far := r.Intn(600)-305, 1+r.Intn(20)
	for range r.Intn(12) {
		switch c := r.Intn(40); {
		case c < 4:
			l = append(l, kind(c+1))
		case c < 8:
			l = append(l, num(0, 0))
		case c == 8:
			l = append(l, wrong()[r.Intn(len(wrong()))])
		default:
			m := r.Int63n(1e15) / int64(math.Pow10(r.Intn(15)))
			if r.Intn(8) == 0 {
				m = int64(math.Pow10(r.Intn(16))) - 1
			}
			if r.Intn(2) == 0 {
				m = -m
			}
			if v, is := float.Clean(m, min(around+r.Intn(far), 290)); is {
				l = append(l, v)
			}
		}
	}
	return l
}

func checkPack(t *testing.T, l []api.Value, m []int64, e, n int) {
	t.Helper()
	gotM, gotE, gotN := Pack(l)
	if !slices.Equal(gotM, m) || gotE != e || gotN != n {
		t.Errorf("Pack(%v) = %v, %d, %d, want %v, %d, %d", l, gotM, gotE, gotN, m, e, n)
	}
}

// P3.1

func TestPackOfTheExamples(t *testing.T) {
	checkPack(t, []api.Value{num(15, -1), num(2, 0), kind(api.MinusZero), {}}, []int64{15, 20, minusZero, 0}, -1, 4)
	checkPack(t, []api.Value{num(1, 20), num(1, 0)}, []int64{1}, 20, 1)
}

func TestPackOfNone(t *testing.T) {
	checkPack(t, nil, nil, 0, 0)
	checkPack(t, []api.Value{}, nil, 0, 0)
	for _, v := range wrong() {
		checkPack(t, []api.Value{v}, nil, 0, 0)
		checkPack(t, []api.Value{v, num(1, 5)}, nil, 0, 0)
	}
}

func TestPackEndsAheadOfAValueThatMayNotBe(t *testing.T) {
	for _, v := range wrong() {
		checkPack(t, []api.Value{num(3, 2), num(7, 1), v, num(1, 0)}, []int64{30, 7}, 1, 2)
		checkPack(t, []api.Value{{}, kind(api.PlusInf), v}, []int64{0, plusInf}, 0, 2)
	}
}

func TestPackOfValuesWithoutAnExponent(t *testing.T) {
	checkPack(t, []api.Value{{}}, []int64{0}, 0, 1)
	checkPack(t, []api.Value{{}, {}, {}}, []int64{0, 0, 0}, 0, 3)
	all := []api.Value{kind(api.Stale), kind(api.PlusInf), kind(api.MinusInf), kind(api.MinusZero)}
	marks := []int64{stale, plusInf, minusInf, minusZero}
	checkPack(t, all, marks, 0, 4)
	checkPack(t, append(all, api.Value{}), append(marks, 0), 0, 5)
	for i := range all {
		checkPack(t, all[i:i+1], marks[i:i+1], 0, 1)
	}
}

// 0 and the kinds that are no numbers leave the exponent as it is, wherever they stand, far from 0 too.
func TestPackOfValuesWithoutAnExponentAmongNumbers(t *testing.T) {
	for _, e := range []int{-300, -299, -18, -1, 0, 1, 17, 18, 19, 289, 290} {
		for kindOf := api.Stale; kindOf <= api.MinusZero; kindOf++ {
			l := []api.Value{{}, kind(kindOf), num(-7, e), {}, kind(kindOf), num(999999999999999, e), {}}
			mark := math.MinInt64 + int64(kindOf)
			checkPack(t, l, []int64{0, mark, -7, 0, mark, 999999999999999, 0}, e, 7)
		}
	}
}

func TestPackAtTheEndsOfMantissas(t *testing.T) {
	const most = 999999999999999
	for _, sign := range []int64{1, -1} {
		checkPack(t, []api.Value{num(sign*most, 3), num(1, 0)}, []int64{sign * most * 1000, 1}, 0, 2)
		checkPack(t, []api.Value{num(1, 0), num(sign*most, 3)}, []int64{1, sign * most * 1000}, 0, 2)
		checkPack(t, []api.Value{num(sign*most, 4), num(1, 0)}, []int64{sign * most}, 4, 1)
		checkPack(t, []api.Value{num(1, 0), num(sign*most, 4)}, []int64{1}, 0, 1)
		checkPack(t, []api.Value{num(sign*1, 17), num(1, 0)}, []int64{sign * 1e17, 1}, 0, 2)
		checkPack(t, []api.Value{num(sign*9, 17), num(-9, 0)}, []int64{sign * 9e17, -9}, 0, 2)
		checkPack(t, []api.Value{num(sign*1, 18), num(1, 0)}, []int64{sign}, 18, 1)
		checkPack(t, []api.Value{num(1, 0), num(sign*1, 18)}, []int64{1}, 0, 1)
		checkPack(t, []api.Value{num(sign*11, 17), num(1, 0)}, []int64{sign * 11}, 17, 1)
		checkPack(t, []api.Value{num(sign*99, 16), num(1, 0)}, []int64{sign * 99e16, 1}, 0, 2)
	}
	for digits := 1; digits <= 15; digits++ {
		nines := int64(math.Pow10(digits)) - 1
		ten := int64(math.Pow10(digits-1)) + 1
		shift := 18 - digits
		power := int64(math.Pow10(shift))
		checkPack(t, []api.Value{num(nines, shift-4), num(-3, -4)}, []int64{nines * power, -3}, -4, 2)
		checkPack(t, []api.Value{num(ten, shift+1), num(3, 0)}, []int64{ten}, shift+1, 1)
	}
}

func TestPackAtTheEndsOfExponents(t *testing.T) {
	checkPack(t, []api.Value{num(1, -300), num(1, -283)}, []int64{1, 1e17}, -300, 2)
	checkPack(t, []api.Value{num(1, -300), num(1, -282)}, []int64{1}, -300, 1)
	checkPack(t, []api.Value{num(1, 290), num(1, 273)}, []int64{1e17, 1}, 273, 2)
	checkPack(t, []api.Value{num(1, 290), num(1, 272)}, []int64{1}, 290, 1)
	checkPack(t, []api.Value{num(1, 290), num(1, -300)}, []int64{1}, 290, 1)
	checkPack(t, []api.Value{num(-1, -300), num(1, 290)}, []int64{-1}, -300, 1)
	checkPack(t, []api.Value{num(1, 18), num(1, 9), num(1, 0)}, []int64{1e9, 1}, 9, 2)
}

// Neither of two is too far from the one that is next to it; all together are.
func TestPackHoldsAllAheadAgainstTheLeastExponent(t *testing.T) {
	checkPack(t, []api.Value{num(1, 17), num(1, 8), num(1, 0), num(1, -1)}, []int64{1e17, 1e8, 1}, 0, 3)
	checkPack(t, []api.Value{num(1, -1), num(1, 8), num(1, 17)}, []int64{1, 1e9}, -1, 2)
	checkPack(t, []api.Value{num(1, 8), num(1, 17), num(5, 3), num(1, -1), num(1, 3)}, []int64{1e5, 1e14, 5}, 3, 3)
}

func TestPackIsTheLongestBeginning(t *testing.T) {
	r := rand.New(rand.NewSource(6))
	whole, stopped := 0, 0
	for range 30000 {
		l := anyList(r)
		m, e, n := packed(l)
		checkPack(t, l, m, e, n)
		if n == len(l) {
			whole++
		} else if n > 1 && float.Right(l[n]) {
			stopped++
		}
	}
	if whole < 3000 || stopped < 3000 {
		t.Fatalf("%d whole, %d that stop at numbers too far off: too few", whole, stopped)
	}
}

func TestPackOfMany(t *testing.T) {
	l := make([]api.Value, 200000)
	for i := range l {
		l[i] = num(int64(i%9+1), 17-i%18)
	}
	l = append(l, num(1, 18))
	if m, e, n := Pack(l); len(m) != 200000 || e != 0 || n != 200000 || m[18] != 1e17 {
		t.Errorf("Pack of 200001 values takes %d, with exponent %d", n, e)
	}
}

// P3.2

func TestUnpack(t *testing.T) {
	for _, c := range []struct {
		m    []int64
		e    int
		want []api.Value
	}{
		{[]int64{15, 20, minusZero, 0}, -1, []api.Value{num(15, -1), num(2, 0), kind(api.MinusZero), {}}},
		{[]int64{stale, plusInf, minusInf, minusZero}, 7, []api.Value{kind(1), kind(2), kind(3), kind(4)}},
		{nil, 0, nil}, {[]int64{}, 3, nil}, {nil, 1000, nil}, {nil, -1000, nil},
		{[]int64{1e17, -1e17, 999999999999999000, -999999999999999000}, 0, []api.Value{num(1, 17), num(-1, 17), num(999999999999999, 3), num(-999999999999999, 3)}},
		{[]int64{10, 1, -1500}, 0, []api.Value{num(1, 1), num(1, 0), num(-15, 2)}},
		{[]int64{1}, 290, []api.Value{num(1, 290)}}, {[]int64{1}, -300, []api.Value{num(1, -300)}},
		{[]int64{1e17}, 273, []api.Value{num(1, 290)}}, {[]int64{1e17}, -317, []api.Value{num(1, -300)}},
		{[]int64{0, 0}, 1000, []api.Value{{}, {}}}, {[]int64{0, stale}, -1000, []api.Value{{}, kind(api.Stale)}},
		{[]int64{minusZero, plusInf, minusInf}, 1000, []api.Value{kind(4), kind(2), kind(3)}},
	} {
		if got, e := Unpack(c.m, c.e); e != api.OK || !slices.Equal(got, c.want) {
			t.Errorf("Unpack(%v, %d) = %v, %d, want %v", c.m, c.e, got, e, c.want)
		}
	}
}

func TestUnpackOfWhatMayNotBe(t *testing.T) {
	for _, c := range []struct {
		m int64
		e int
	}{
		{1e18, 0}, {-1e18, 0}, {1e18, -18}, {-1e18, -3}, {2e18, 0}, {9e18, -10}, {-9e18, -10}, {math.MaxInt64, 0}, {-math.MaxInt64 + 9, 0},
		{math.MinInt64, 0}, {math.MinInt64 + 5, 0}, {math.MinInt64 + 8, 0}, {-9e18, 0}, {-9223372036854770000, 0},
		{1e15 + 1, 0}, {-1e15 - 1, 0}, {1e18 - 1, 0}, {-1e18 + 1, 0}, {1e18 - 100, 0}, {999999999999999900 + 10, 0},
		{1, 291}, {-1, 291}, {10, 290}, {1e17, 274}, {1, -301}, {15, -301}, {1e17, -318}, {1, 1000}, {1, -1000},
		{1, 1001}, {1, -1001}, {0, 1001}, {0, -1001}, {stale, 1001}, {minusZero, -1001}, {0, math.MaxInt}, {0, math.MinInt}, {plusInf, math.MaxInt},
	} {
		for _, m := range [][]int64{{c.m}, {0, c.m}, {c.m, 0, stale}, {minusZero, 0, c.m, 0}} {
			if got, e := Unpack(m, c.e); len(got) != 0 || e != api.ErrValue {
				t.Errorf("Unpack(%v, %d) = %v, %d, want none, %d", m, c.e, got, e, api.ErrValue)
			}
		}
	}
}

func TestUnpackOfNoneWithAnExponentThatMayNotBe(t *testing.T) {
	for _, e := range []int{1001, -1001, math.MaxInt, math.MinInt} {
		if got, f := Unpack(nil, e); len(got) != 0 || f != api.ErrValue {
			t.Errorf("Unpack(nil, %d) = %v, %d, want none, %d", e, got, f, api.ErrValue)
		}
	}
}

// Whatever is given: the values are those that Clean tells, each of them, or there are none.
func TestUnpackIsByClean(t *testing.T) {
	r := rand.New(rand.NewSource(7))
	found := 0
	for range 30000 {
		m := int64(r.Uint64()) >> r.Intn(60)
		if r.Intn(3) > 0 {
			m = (r.Int63n(2e15) - 1e15) * int64(math.Pow10(r.Intn(4)))
		}
		e := r.Intn(700) - 350
		want, is := float.Clean(m, e)
		if m <= -1e18 || m >= 1e18 {
			want, is = api.Value{}, false
		}
		got, f := Unpack([]int64{stale, m}, e)
		if is {
			found++
			if f != api.OK || !slices.Equal(got, []api.Value{kind(api.Stale), want}) {
				t.Fatalf("Unpack of %d, %d = %v, %d, want %v", m, e, got, f, want)
			}
		} else if len(got) != 0 || f != api.ErrValue {
			t.Fatalf("Unpack of %d, %d = %v, %d, want none", m, e, got, f)
		}
	}
	if found < 5000 || found > 25000 {
		t.Fatalf("%d were found: too few, or too many", found)
	}
}

// P3.3

func TestWhatIsPackedIsUnpackedAsItWas(t *testing.T) {
	r := rand.New(rand.NewSource(8))
	for range 20000 {
		l := anyList(r)
		m, e, n := Pack(l)
		if got, f := Unpack(m, e); f != api.OK || !slices.Equal(got, l[:n]) {
			t.Fatalf("Unpack(%v, %d) = %v, %d, want %v", m, e, got, f, l[:n])
		}
	}
}

func TestWhatHasOneExponentHasItWithoutSome(t *testing.T) {
	r := rand.New(rand.NewSource(9))
	for range 20000 {
		l := anyList(r)
		_, _, n := Pack(l)
		var some []api.Value
		for _, v := range l[:n] {
			if r.Intn(3) > 0 {
				some = append(some, v)
			}
		}
		_, e, taken := Pack(some)
		if taken != len(some) || e != theirs(some) {
			t.Fatalf("Pack(%v) takes %d, with exponent %d, but %v has one", some, taken, e, l[:n])
		}
	}
}

// Rule 4: what is handed in stays, the room behind its end too, and what is answered is new memory.
func TestNothingIsSharedOrChanged(t *testing.T) {
	room := []api.Value{num(15, -1), num(2, 0), kind(api.Stale), num(7, 7)}
	was := slices.Clone(room)
	m, e, _ := Pack(room[:2])
	again, _, _ := Pack(room[:2])
	m[0] = 99
	if !slices.Equal(room, was) || again[0] != 15 {
		t.Errorf("Pack leaves %v, %v", room, again)
	}
	mantissas := []int64{15, 20, stale, 7}
	l, _ := Unpack(mantissas[:2], e)
	other, _ := Unpack(mantissas[:2], e)
	l[0] = num(1, 1)
	if !slices.Equal(mantissas, []int64{15, 20, stale, 7}) || other[0] != num(15, -1) {
		t.Errorf("Unpack leaves %v, %v", mantissas, other)
	}
}
