package codec

import (
	"bytes"
	"encoding/binary"
	"math"
	"math/big"
	"math/rand"
	"slices"
	"testing"

	"esker/api"
)

// rounded is a number of any size in 64 bits.
func rounded(n *big.Int) int64 {
	return int64(n.And(n, new(big.Int).SetUint64(math.MaxUint64)).Uint64())
}

// difference is the number d with a + d = b.
func difference(a, b int64) int64 {
	return rounded(new(big.Int).Sub(big.NewInt(b), big.NewInt(a)))
}

// sum is a + d.
func sum(a, d int64) int64 {
	return rounded(new(big.Int).Add(big.NewInt(a), big.NewInt(d)))
}

// neighbours is the differences of neighbours.
func neighbours(l []int64) []int64 {
	var out []int64
	for i := 1; i < len(l); i++ {
		out = append(out, difference(l[i-1], l[i]))
	}
	return out
}

// areAlike tells whether all numbers are one.
func areAlike(l []int64) bool {
	return len(slices.Compact(slices.Clone(l))) <= 1
}

// wantAs is the code by the document's table.
func wantAs(kind int, l []int64) ([]byte, bool) {
	n, d := len(l), neighbours(l)
	var numbers []int64
	may := n <= 4096
	switch kind {
	case Const:
		if may = may && n >= 1 && areAlike(l); may {
			numbers = l[:1]
		}
	case Step:
		if may = may && n >= 2 && areAlike(d); may {
			numbers = []int64{l[0], d[0]}
		}
	case Delta:
		if may && n > 0 {
			numbers = append([]int64{l[0]}, d...)
		}
	case Second:
		if may = may && n >= 2; may {
			numbers = append([]int64{l[0], d[0]}, neighbours(d)...)
		}
	default:
		may = false
	}
	if !may {
		return nil, false
	}
	b := binary.AppendUvarint([]byte{byte(kind)}, uint64(n))
	for _, n := range numbers {
		b = binary.AppendVarint(b, n)
	}
	return b, true
}

// wantChoose is the first kind of those with the shortest code.
func wantChoose(l []int64) int {
	best, size := Delta, math.MaxInt
	for kind := Const; kind <= Second; kind++ {
		if b, is := wantAs(kind, l); is && len(b) < size {
			best, size = kind, len(b)
		}
	}
	return best
}

// evenly is n numbers from the first one on, each by a step above the one ahead of it.
func evenly(n int, first, step int64) []int64 {
	l := make([]int64, n)
	for i := range l {
		l[i] = first + int64(i)*step
	}
	return l
}

// bent is n numbers whose differences have even steps.
func bent(n int, first, step, bend int64) []int64 {
	l := make([]int64, n)
	for i := range l {
		l[i] = first
		first += step
		step += bend
	}
	return l
}

// rough is n numbers that no rule tells.
func rough(n int, seed int64) []int64 {
	r := rand.New(rand.NewSource(seed))
	l := make([]int64, n)
	for i := range l {
		l[i] = int64(r.Uint64()) >> r.Intn(64)
	}
	return l
}

// many is rows of all shapes: short ones of numbers at both ends and near 0, and longer ones at the edges of the count.
func many() [][]int64 {
	ends := []int64{math.MinInt64, math.MinInt64 + 1, -65, -1, 0, 1, 63, 64, 1 << 62, math.MaxInt64 - 1, math.MaxInt64}
	rows := [][]int64{nil, {}}
	for _, a := range ends {
		rows = append(rows, []int64{a})
		for _, b := range ends {
			rows = append(rows, []int64{a, b})
			for _, c := range ends {
				rows = append(rows, []int64{a, b, c}, []int64{a, b, c, c}, []int64{a, a, b, c})
			}
		}
	}
	for _, n := range []int{1, 2, 3, 4, 127, 128, 1000, 4095, 4096, 4097, 5000} {
		rows = append(rows, evenly(n, 7, 0), evenly(n, -3, 1000), evenly(n, 5, -1), evenly(n, math.MaxInt64-2, 1<<61),
			bent(n, 0, 1000, 1), bent(n, 1<<62, -1<<61, -1<<60), rough(n, int64(n)))
	}
	r := rand.New(rand.NewSource(4))
	for i := range 2000 {
		l := rough(r.Intn(9), int64(i))
		if len(l) > 0 && i%3 == 0 {
			l = bent(r.Intn(20), l[0], l[len(l)/2], int64(i%4-2))
			if len(l) > 0 && i%2 == 0 {
				l[r.Intn(len(l))]++
			}
		}
		rows = append(rows, l)
	}
	return rows
}

// short is a row that a failing test can print.
func short(l []int64) []int64 { return l[:min(len(l), 8)] }

// P4.1

func TestAsOfEachKindWhereItMayBe(t *testing.T) {
	for _, c := range []struct {
		kind int
		l    []int64
		want []byte
	}{
		{Const, []int64{5}, []byte{0, 1, 10}},
		{Const, []int64{5, 5, 5}, []byte{0, 3, 10}},
		{Const, []int64{-1, -1}, []byte{0, 2, 1}},
		{Step, []int64{5, 5}, []byte{1, 2, 10, 0}},
		{Step, []int64{10, 20, 30}, []byte{1, 3, 20, 20}},
		{Step, []int64{3, 1, -1, -3}, []byte{1, 4, 6, 3}},
		{Delta, nil, []byte{2, 0}},
		{Delta, []int64{150}, []byte{2, 1, 172, 2}},
		{Delta, []int64{5, 5, 5}, []byte{2, 3, 10, 0, 0}},
		{Delta, []int64{1, 3, 2}, []byte{2, 3, 2, 4, 1}},
		{Second, []int64{1, 4}, []byte{3, 2, 2, 6}},
		{Second, []int64{10, 20, 30}, []byte{3, 3, 20, 20, 0}},
		{Second, []int64{0, 1000, 2001, 3003}, []byte{3, 4, 0, 208, 15, 2, 2}},
		{Second, []int64{0, 10, 15, 25}, []byte{3, 4, 0, 20, 9, 10}},
	} {
		if b, is := As(c.kind, c.l); !is || !bytes.Equal(b, c.want) {
			t.Errorf("As(%d, %v) = %v, %v, want %v", c.kind, c.l, b, is, c.want)
		}
	}
}

func TestAsOfEachKindWhereItMayNotBe(t *testing.T) {
	for _, c := range []struct {
		kind int
		l    []int64
	}{
		{Const, nil}, {Const, []int64{1, 2}}, {Const, []int64{1, 1, 1, 2}}, {Const, []int64{2, 1, 1}},
		{Step, nil}, {Step, []int64{1}}, {Step, []int64{1, 2, 4}}, {Step, []int64{1, 1, 2}}, {Step, []int64{0, 1, 2, 3, 5}},
		{Second, nil}, {Second, []int64{1}},
	} {
		if b, is := As(c.kind, c.l); is || len(b) != 0 {
			t.Errorf("As(%d, %v) = %v, %v", c.kind, c.l, b, is)
		}
	}
}

func TestAsOfAKindThatIsNone(t *testing.T) {
	for _, kind := range []int{-1, 4, 5, 256, 258, math.MaxInt, math.MinInt} {
		for _, l := range [][]int64{nil, {1}, {1, 1}, {1, 2}, make([]int64, 4097)} {
			if b, is := As(kind, l); is || len(b) != 0 {
				t.Errorf("As(%d, %v) = %v, %v", kind, short(l), b, is)
			}
		}
	}
}

func TestAsOfTheMostNumbersAndOneMore(t *testing.T) {
	for kind, want := range [][]byte{{0, 128, 32, 0}, {1, 128, 32, 0, 0}, append([]byte{2, 128, 32}, make([]byte, 4096)...), append([]byte{3, 128, 32}, make([]byte, 4096)...)} {
		if b, is := As(kind, make([]int64, 4096)); !is || !bytes.Equal(b, want) {
			t.Errorf("As(%d) of 4096 noughts: %d bytes, %v", kind, len(b), is)
		}
		for _, n := range []int{4097, 8192, 1 << 20} {
			if b, is := As(kind, make([]int64, n)); is || len(b) != 0 {
				t.Errorf("As(%d) of %d noughts: %d bytes, %v", kind, n, len(b), is)
			}
		}
	}
}

func TestDifferencesGoRound(t *testing.T) {
	const low, high = math.MinInt64, math.MaxInt64
	highest := []byte{254, 255, 255, 255, 255, 255, 255, 255, 255, 1}
	lowest := []byte{255, 255, 255, 255, 255, 255, 255, 255, 255, 1}
	for _, c := range []struct {
		kind int
		l    []int64
		want []byte
	}{
		{Step, []int64{high, low, low + 1}, slices.Concat([]byte{1, 3}, highest, []byte{2})},
		{Step, []int64{low, high, high - 1}, slices.Concat([]byte{1, 3}, lowest, []byte{1})},
		{Step, []int64{0, low, 0, low}, slices.Concat([]byte{1, 4, 0}, lowest)},
		{Delta, []int64{high, low, high}, slices.Concat([]byte{2, 3}, highest, []byte{2, 1})},
		{Delta, []int64{-1, high, 1}, slices.Concat([]byte{2, 3, 1}, lowest, []byte{251}, lowest[1:])},
		{Second, []int64{0, high, high - 1}, slices.Concat([]byte{3, 3, 0}, highest, lowest)},
		{Second, []int64{0, high, high + low}, slices.Concat([]byte{3, 3, 0}, highest, []byte{2})},
	} {
		b, is := As(c.kind, c.l)
		if !is || !bytes.Equal(b, c.want) {
			t.Errorf("As(%d, %v) = %v, %v, want %v", c.kind, c.l, b, is, c.want)
		}
		if l, rest, e := Decode(b); !slices.Equal(l, c.l) || len(rest) != 0 || e != api.OK {
			t.Errorf("%v came back as %v, %v, %v", c.l, l, rest, e)
		}
	}
}

func TestAsOfManyRows(t *testing.T) {
	for _, l := range many() {
		for kind := -1; kind <= 4; kind++ {
			want, may := wantAs(kind, l)
			if b, is := As(kind, l); is != may || !bytes.Equal(b, want) {
				t.Fatalf("As(%d) of %d numbers, %v: %d bytes, %v, want %d, %v", kind, len(l), short(l), len(b), is, len(want), may)
			}
		}
	}
}

// P4.2

func TestChooseAndEncodeOfTheExamples(t *testing.T) {
	for _, c := range []struct {
		l    []int64
		kind int
		want []byte
	}{
		{[]int64{5, 5, 5}, Const, []byte{0, 3, 10}},
		{[]int64{10, 20, 30}, Step, []byte{1, 3, 20, 20}},
		{nil, Delta, []byte{2, 0}},
		{[]int64{}, Delta, []byte{2, 0}},
		{[]int64{1, 3, 2}, Delta, []byte{2, 3, 2, 4, 1}},
		{[]int64{0, 1000, 2001, 3003}, Second, []byte{3, 4, 0, 208, 15, 2, 2}},
	} {
		if kind, b := Choose(c.l), Encode(c.l); kind != c.kind || !bytes.Equal(b, c.want) {
			t.Errorf("%v: %d, %v, want %d, %v", c.l, kind, b, c.kind, c.want)
		}
	}
}

func TestOfSeveralKindsTheFirstIsChosen(t *testing.T) {
	for _, c := range []struct {
		l    []int64
		kind int
		also []int
	}{
		{[]int64{5}, Const, []int{Delta}},
		{[]int64{5, 9}, Step, []int{Delta, Second}},
		{[]int64{5, 6, 8}, Delta, []int{Second}},
		{[]int64{1, 3, 2, 9}, Delta, []int{Second}},
	} {
		if kind := Choose(c.l); kind != c.kind {
			t.Errorf("Choose(%v) = %d, want %d", c.l, kind, c.kind)
		}
		best, _ := As(c.kind, c.l)
		for _, kind := range c.also {
			if b, is := As(kind, c.l); !is || len(b) != len(best) {
				t.Errorf("%v by %d takes %d bytes, by %d %d: no tie", c.l, kind, len(b), c.kind, len(best))
			}
		}
	}
}

func TestDeltaIsChosenWhereSecondTakesMore(t *testing.T) {
	l := []int64{0, 60, 0, 60, 0}
	delta, _ := As(Delta, l)
	second, _ := As(Second, l)
	if Choose(l) != Delta || len(delta) != 7 || len(second) != 10 || !bytes.Equal(Encode(l), delta) {
		t.Error(Choose(l), delta, second)
	}
}

func TestChooseAndEncodeOfTheMostNumbersAndOneMore(t *testing.T) {
	for _, shape := range []struct {
		l    []int64
		kind int
	}{
		{evenly(1<<13, 9, 0), Const}, {evenly(1<<13, 9, 4), Step}, {rough(1<<13, 3), Delta}, {bent(1<<13, 0, 5000, 1), Second},
	} {
		want, _ := wantAs(shape.kind, shape.l[:4096])
		if kind, b := Choose(shape.l[:4096]), Encode(shape.l[:4096]); kind != shape.kind || !bytes.Equal(b, want) {
			t.Errorf("4096 numbers: %d, %d bytes, want %d, %d", kind, len(b), shape.kind, len(want))
		}
		for _, n := range []int{4097, 1 << 13} {
			if kind, b := Choose(shape.l[:n]), Encode(shape.l[:n]); kind != Delta || len(b) != 0 {
				t.Errorf("%d numbers: %d, %d bytes", n, kind, len(b))
			}
		}
	}
}

func TestChooseAndEncodeOfManyRows(t *testing.T) {
	for _, l := range many() {
		kind := wantChoose(l)
		want, _ := wantAs(kind, l)
		if got, b := Choose(l), Encode(l); got != kind || !bytes.Equal(b, want) {
			t.Fatalf("%d numbers, %v: %d, %d bytes, want %d, %d", len(l), short(l), got, len(b), kind, len(want))
		}
	}
}

// P4.3

func TestDecodeOfGoodBytes(t *testing.T) {
	for _, c := range []struct {
		b    []byte
		l    []int64
		rest []byte
	}{
		{[]byte{0, 1, 10}, []int64{5}, nil},
		{[]byte{0, 3, 10, 7}, []int64{5, 5, 5}, []byte{7}},
		{[]byte{1, 2, 10, 0}, []int64{5, 5}, nil},
		{[]byte{1, 3, 20, 20, 128}, []int64{10, 20, 30}, []byte{128}},
		{[]byte{2, 0}, nil, nil},
		{[]byte{2, 0, 128, 0}, nil, []byte{128, 0}},
		{[]byte{2, 1, 10, 0, 0}, []int64{5}, []byte{0, 0}},
		{[]byte{2, 3, 10, 0, 0}, []int64{5, 5, 5}, nil},
		{[]byte{2, 3, 2, 4, 1, 9}, []int64{1, 3, 2}, []byte{9}},
		{[]byte{3, 2, 2, 6}, []int64{1, 4}, nil},
		{[]byte{3, 4, 0, 208, 15, 2, 2, 4, 5}, []int64{0, 1000, 2001, 3003}, []byte{4, 5}},
		{[]byte{3, 4, 0, 20, 9, 10}, []int64{0, 10, 15, 25}, nil},
		{[]byte{0, 128, 32, 2, 3}, evenly(4096, 1, 0), []byte{3}},
		{[]byte{1, 128, 32, 2, 2, 3}, evenly(4096, 1, 1), []byte{3}},
		{append([]byte{2, 128, 32}, bytes.Repeat([]byte{2}, 4098)...), evenly(4096, 1, 1), []byte{2, 2}},
		{append([]byte{3, 128, 32}, bytes.Repeat([]byte{2}, 4098)...), bent(4096, 1, 1, 1), []byte{2, 2}},
	} {
		if l, rest, e := Decode(c.b); !slices.Equal(l, c.l) || !bytes.Equal(rest, c.rest) || e != api.OK {
			t.Errorf("Decode(%v) = %v, %v, %v", c.b[:min(len(c.b), 9)], short(l), rest, e)
		}
	}
}

func TestDecodeTellsTheErrorThatIsNamedFirst(t *testing.T) {
	long := bytes.Repeat([]byte{255}, 10)
	for _, c := range []struct {
		b []byte
		e api.Errno
	}{
		// Nothing.
		{nil, api.ErrShort}, {[]byte{}, api.ErrShort},
		// No kind, whatever follows.
		{[]byte{4}, api.ErrForm}, {[]byte{255}, api.ErrForm}, {[]byte{128, 1}, api.ErrForm}, {[]byte{4, 128}, api.ErrForm}, {[]byte{5, 1, 2, 2}, api.ErrForm},
		// The number of numbers, as varint says.
		{[]byte{0}, api.ErrShort}, {[]byte{1}, api.ErrShort}, {[]byte{2}, api.ErrShort}, {[]byte{3}, api.ErrShort}, {[]byte{2, 128}, api.ErrShort},
		{[]byte{2, 128, 0}, api.ErrForm}, {[]byte{2, 129, 0, 2}, api.ErrForm}, {append([]byte{2}, long...), api.ErrForm}, {append([]byte{0}, long[1:]...), api.ErrShort},
		// A number that is too great, ahead of numbers that are short.
		{[]byte{0, 129, 32}, api.ErrForm}, {[]byte{1, 129, 32, 0, 0}, api.ErrForm}, {[]byte{2, 129, 32}, api.ErrForm}, {[]byte{3, 129, 32, 128}, api.ErrForm},
		{append([]byte{2, 129, 32}, make([]byte, 4097)...), api.ErrForm},
		{append([]byte{0}, binary.AppendUvarint(nil, math.MaxUint64)...), api.ErrForm},
		{append([]byte{2}, binary.AppendUvarint(nil, 1<<63)...), api.ErrForm},
		{append([]byte{2}, binary.AppendUvarint(nil, 1<<32)...), api.ErrForm},
		{append([]byte{3}, binary.AppendUvarint(nil, 1<<63+2)...), api.ErrForm},
		// So many may not have this kind, ahead of numbers that are short.
		{[]byte{0, 0}, api.ErrForm}, {[]byte{0, 0, 2}, api.ErrForm},
		{[]byte{1, 0}, api.ErrForm}, {[]byte{1, 1}, api.ErrForm}, {[]byte{1, 1, 2, 2}, api.ErrForm},
		{[]byte{3, 0}, api.ErrForm}, {[]byte{3, 1}, api.ErrForm}, {[]byte{3, 1, 2}, api.ErrForm}, {[]byte{3, 1, 128}, api.ErrForm},
		// The numbers, as varint says.
		{[]byte{0, 1}, api.ErrShort}, {[]byte{0, 1, 128}, api.ErrShort}, {[]byte{0, 128, 32}, api.ErrShort}, {[]byte{0, 2, 128, 0}, api.ErrForm},
		{[]byte{1, 2}, api.ErrShort}, {[]byte{1, 2, 2}, api.ErrShort}, {[]byte{1, 3, 2, 255, 0}, api.ErrForm},
		{[]byte{2, 1}, api.ErrShort}, {[]byte{2, 2, 2}, api.ErrShort}, {[]byte{2, 1, 128, 0}, api.ErrForm}, {[]byte{2, 3, 0, 128, 0}, api.ErrForm},
		{[]byte{3, 2, 2}, api.ErrShort}, {[]byte{3, 3, 2, 2}, api.ErrShort}, {[]byte{3, 3, 2, 2, 128, 0}, api.ErrForm},
		{append([]byte{2, 1}, long...), api.ErrForm}, {append([]byte{2, 128, 32}, make([]byte, 4095)...), api.ErrShort},
		{append([]byte{3, 128, 32}, make([]byte, 4095)...), api.ErrShort},
	} {
		if l, rest, e := Decode(c.b); len(l) != 0 || len(rest) != 0 || e != c.e {
			t.Errorf("Decode(%v) = %v, %v, %v, want %v", c.b[:min(len(c.b), 9)], short(l), rest, e, c.e)
		}
	}
}

// wantNumber is a number by the library, and what lies behind.
func wantNumber(b []byte) (uint64, []byte, api.Errno) {
	ends := func(c byte) bool { return c < 128 }
	if len(b) >= 10 && !slices.ContainsFunc(b[:10], ends) {
		return 0, nil, api.ErrForm
	}
	u, n := binary.Uvarint(b)
	switch {
	case n == 0:
		return 0, nil, api.ErrShort
	case n < 0, n != len(binary.AppendUvarint(nil, u)):
		return 0, nil, api.ErrForm
	}
	return u, b[n:], api.OK
}

// wantDecode is the row by the document's words, number by number; sums are those of great numbers, cut to 64 bits.
func wantDecode(b []byte) ([]int64, []byte, api.Errno) {
	if len(b) == 0 {
		return nil, nil, api.ErrShort
	}
	kind := b[0]
	if kind > Second {
		return nil, nil, api.ErrForm
	}
	n, b, e := wantNumber(b[1:])
	if e != api.OK {
		return nil, nil, e
	}
	if n > 4096 || n == 0 && kind != Delta || n == 1 && (kind == Step || kind == Second) {
		return nil, nil, api.ErrForm
	}
	next := func() int64 {
		var u uint64
		if e == api.OK {
			u, b, e = wantNumber(b)
		}
		if u%2 == 1 {
			return -int64(u/2) - 1
		}
		return int64(u / 2)
	}
	var l []int64
	var step int64
	for i := range int(n) {
		switch {
		case i == 0:
			l = append(l, next())
			continue
		case kind == Step && i == 1, kind == Delta:
			step = next()
		case kind == Second:
			step = sum(step, next())
		}
		l = append(l, sum(l[i-1], step))
	}
	if e != api.OK {
		return nil, nil, e
	}
	return l, b, api.OK
}

func TestDecodeOfAnyBytes(t *testing.T) {
	check := func(b []byte) {
		want, behind, wantE := wantDecode(b)
		l, rest, e := Decode(b)
		if !slices.Equal(l, want) || !bytes.Equal(rest, behind) || e != wantE {
			t.Fatalf("Decode(%v) = %v, %v, %v, want %v, %v, %v", b, short(l), rest, e, short(want), behind, wantE)
		}
	}
	for two := range 1 << 16 {
		check([]byte{byte(two >> 8), byte(two)})
		check([]byte{byte(two>>8) % 5, byte(two) % 6, byte(two), 129, 1, byte(two >> 8), 0, 3})
	}
	r := rand.New(rand.NewSource(5))
	for range 50000 {
		b := make([]byte, r.Intn(40))
		r.Read(b)
		if len(b) > 1 {
			b[0] %= 5
			b[1] %= 7
		}
		check(b)
	}
}

func TestDecodeOfBytesThatAreCutOrChanged(t *testing.T) {
	for _, l := range many() {
		for kind := Const; kind <= Second; kind++ {
			code, is := As(kind, l)
			if !is || len(code) > 60 {
				continue
			}
			for end := range code {
				if row, rest, e := Decode(code[:end]); len(row) != 0 || len(rest) != 0 || e != api.ErrShort {
					t.Fatalf("Decode(%v) = %v, %v, %v", code[:end], row, rest, e)
				}
				b := slices.Clone(code)
				b[end] ^= 128
				want, behind, wantE := wantDecode(b)
				if row, rest, e := Decode(b); !slices.Equal(row, want) || !bytes.Equal(rest, behind) || e != wantE {
					t.Fatalf("Decode(%v) = %v, %v, %v, want %v, %v, %v", b, short(row), rest, e, short(want), behind, wantE)
				}
			}
		}
	}
}

// P4.4

func TestWhatIsEncodedIsDecoded(t *testing.T) {
	tail := []byte{4, 128, 0, 9}
	check := func(l []int64, code []byte) {
		for _, behind := range [][]byte{nil, tail} {
			row, rest, e := Decode(slices.Concat(code, behind))
			if !slices.Equal(row, l) || !bytes.Equal(rest, behind) || e != api.OK {
				t.Fatalf("%d numbers, %v, by %d came back as %d, %v, with %v, %v", len(l), short(l), code[0], len(row), short(row), rest, e)
			}
		}
	}
	for _, l := range many() {
		if len(l) > 4096 {
			continue
		}
		check(l, Encode(l))
		for kind := Const; kind <= Second; kind++ {
			if code, is := As(kind, l); is {
				check(l, code)
			}
		}
	}
}

func TestRowsAreDecodedOneBehindAnother(t *testing.T) {
	rows := [][]int64{{5, 5, 5}, nil, {10, 20, 30}, {1, 3, 2}, {0, 1000, 2001, 3003}, {math.MinInt64}}
	var b []byte
	for _, l := range rows {
		b = append(b, Encode(l)...)
	}
	for _, want := range rows {
		l, rest, e := Decode(b)
		if !slices.Equal(l, want) || e != api.OK {
			t.Errorf("Decode(%v) = %v, %v, want %v", b, l, e, want)
		}
		b = rest
	}
	if len(b) != 0 {
		t.Error(b)
	}
}

func TestAlikeNumbersAndEvenStepsTakeNoMoreBytes(t *testing.T) {
	for _, c := range []struct {
		first, step int64
		from, bytes int
	}{
		{5, 0, 1, 2}, {-1, 0, 1, 2}, {math.MaxInt64, 0, 1, 11}, {10, 10, 2, 3}, {0, -1000, 2, 4}, {math.MaxInt64, 1, 2, 12}, {1, math.MinInt64, 2, 12},
	} {
		for n := c.from; n <= 4096; n += max(1, n/7) {
			count := len(binary.AppendUvarint(nil, uint64(n)))
			if b := Encode(evenly(n, c.first, c.step)); len(b)-count != c.bytes {
				t.Errorf("%d numbers from %d by %d take %d bytes, %d of them their number's", n, c.first, c.step, len(b), count)
			}
		}
	}
}

// What is handed in, and what is answered (rule 4).

// scribble changes all of a list, the room behind its end included.
func scribble[T byte | int64](l []T) {
	for i := range l[:cap(l)] {
		l[:cap(l)][i] = 99
	}
}

func TestCodesLeaveWhatIsHandedIn(t *testing.T) {
	for _, l := range [][]int64{{}, {5}, {5, 5, 5}, {10, 20, 30}, {1, 3, 2}, {0, 1000, 2001, 3003}} {
		whole := append(slices.Clone(l), -8, -9, -10)
		was := slices.Clone(whole)
		part := whole[:len(l)]
		makers := []func() []byte{func() []byte { return Encode(part) }}
		for kind := Const; kind <= Second; kind++ {
			makers = append(makers, func() []byte { b, _ := As(kind, part); return b })
		}
		for i, code := range makers {
			first, second := code(), code()
			want := slices.Clone(second)
			scribble(first)
			Choose(part)
			if !slices.Equal(whole, was) || !bytes.Equal(second, want) {
				t.Errorf("%v, %d: memory is shared or changed: %v, %v", l, i, whole, second)
			}
		}
		code := Encode(part)
		want := slices.Clone(code)
		scribble(whole)
		if !bytes.Equal(code, want) {
			t.Error("Encode keeps what was handed in:", code)
		}
	}
}

func TestDecodeLeavesWhatIsHandedIn(t *testing.T) {
	for _, c := range []struct {
		b []byte
		l []int64
	}{
		{[]byte{0, 3, 10}, []int64{5, 5, 5}}, {[]byte{1, 3, 20, 20}, []int64{10, 20, 30}}, {[]byte{2, 0}, nil},
		{[]byte{2, 3, 2, 4, 1}, []int64{1, 3, 2}}, {[]byte{3, 3, 2, 4, 1}, []int64{1, 3, 4}},
	} {
		for _, behind := range [][]byte{nil, {7, 8}} {
			whole := slices.Concat(c.b, behind, []byte{1, 2, 3})
			was := slices.Clone(whole)
			part := whole[:len(c.b)+len(behind)]
			l, rest, _ := Decode(part)
			l2, rest2, _ := Decode(part)
			scribble(l)
			if !bytes.Equal(rest, behind) {
				t.Error("Decode's two lists share memory:", rest)
			}
			scribble(rest)
			if !bytes.Equal(whole, was) {
				t.Error("Decode shares memory with what was handed in:", whole)
			}
			scribble(whole)
			if !slices.Equal(l2, c.l) || !bytes.Equal(rest2, behind) {
				t.Error("Decode's answers share memory:", l2, rest2)
			}
		}
	}
}
