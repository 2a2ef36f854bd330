package varint

import (
	"bytes"
	"encoding/binary"
	"math"
	"math/big"
	"math/rand"
	"slices"
	"testing"

	"esker/api"
)

// edges are the numbers at which a byte more is needed, those beside them, and both ends of 64 bits.
func edges() []uint64 {
	l := []uint64{0, 1, 2, 300, math.MaxUint64 - 1, math.MaxUint64}
	for bit := range 64 {
		p := uint64(1) << bit
		l = append(l, p-1, p, p+1)
	}
	slices.Sort(l)
	return slices.Compact(l)
}

// many is the edges, and numbers of all lengths from a fixed seed.
func many() []uint64 {
	r := rand.New(rand.NewSource(1))
	l := edges()
	for range 5000 {
		l = append(l, r.Uint64()>>r.Intn(64))
	}
	return l
}

// high is n bytes that have 128 added, and behind them the tail.
func high(n int, tail ...byte) []byte {
	return append(bytes.Repeat([]byte{255}, n), tail...)
}

// guarded lays b into a greater array that is full of marks behind its end.
func guarded(b []byte) (part, whole []byte) {
	whole = append(slices.Clone(b), bytes.Repeat([]byte{0xEE}, 40)...)
	return whole[:len(b)], whole
}

// scribble changes all of a list, the room behind its end included.
func scribble[T byte | int64](l []T) {
	for i := range l[:cap(l)] {
		l[:cap(l)][i] = 99
	}
}

// P1.1

func TestZigIsTurnedOfAll64Bits(t *testing.T) {
	for _, u := range many() {
		n := int64(u)
		want := new(big.Int).Mul(big.NewInt(2), big.NewInt(n))
		if n < 0 {
			want.Neg(want).Sub(want, big.NewInt(1))
		}
		if got := Zig(n); !want.IsUint64() || got != want.Uint64() {
			t.Errorf("Zig(%d) = %d, want %s", n, got, want)
		}
	}
}

func TestZigAndZagOfTheExamplesAndEnds(t *testing.T) {
	for _, c := range []struct {
		n int64
		u uint64
	}{
		{0, 0}, {-1, 1}, {1, 2}, {-2, 3}, {2, 4},
		{math.MaxInt64, math.MaxUint64 - 1}, {math.MinInt64, math.MaxUint64},
		{math.MinInt64 + 1, math.MaxUint64 - 2},
	} {
		if got := Zig(c.n); got != c.u {
			t.Errorf("Zig(%d) = %d, want %d", c.n, got, c.u)
		}
		if got := Zag(c.u); got != c.n {
			t.Errorf("Zag(%d) = %d, want %d", c.u, got, c.n)
		}
	}
}

func TestZagIsTheNumberThatTurnedIsSo(t *testing.T) {
	for _, u := range many() {
		if got := Zig(Zag(u)); got != u {
			t.Errorf("Zig(Zag(%d)) = %d", u, got)
		}
		if n := int64(u); Zag(Zig(n)) != n {
			t.Errorf("Zag(Zig(%d)) = %d", n, Zag(Zig(n)))
		}
	}
}

func TestSizeChangesAtEachSevenBits(t *testing.T) {
	if Size(0) != 1 || Size(math.MaxUint64) != 10 {
		t.Error(Size(0), Size(math.MaxUint64))
	}
	for n := 1; n <= 9; n++ {
		first := uint64(1) << (7 * n)
		if Size(first-1) != n || Size(first) != n+1 {
			t.Errorf("around %d: %d, %d", first, Size(first-1), Size(first))
		}
	}
}

func TestPutIsTheBytesBehindAll(t *testing.T) {
	for _, c := range []struct {
		u    uint64
		want []byte
	}{
		{0, []byte{0}}, {127, []byte{127}}, {128, []byte{128, 1}}, {300, []byte{172, 2}},
		{1<<63 - 1, high(8, 127)}, {math.MaxUint64, high(9, 1)},
	} {
		if got := Put(nil, c.u); !bytes.Equal(got, c.want) {
			t.Errorf("Put(nil, %d) = %v, want %v", c.u, got, c.want)
		}
	}
	for _, u := range many() {
		want := binary.AppendUvarint([]byte{9, 200}, u)
		if got := Put([]byte{9, 200}, u); !bytes.Equal(got, want) {
			t.Errorf("Put([9 200], %d) = %v, want %v", u, got, want)
		}
		if len(Put(nil, u)) != Size(u) {
			t.Errorf("Size(%d) = %d, Put takes %d", u, Size(u), len(Put(nil, u)))
		}
	}
}

// P1.2

func TestTakeOfGoodBytes(t *testing.T) {
	for _, c := range []struct {
		b    []byte
		u    uint64
		rest []byte
	}{
		{[]byte{0}, 0, nil},
		{[]byte{0, 0}, 0, []byte{0}},
		{[]byte{127, 128}, 127, []byte{128}},
		{[]byte{128, 1}, 128, nil},
		{[]byte{172, 2, 9, 8}, 300, []byte{9, 8}},
		{high(8, 127, 5), 1<<63 - 1, []byte{5}},
		{high(9, 1), math.MaxUint64, nil},
		{high(9, 1, 255), math.MaxUint64, []byte{255}},
		{append(bytes.Repeat([]byte{128}, 9), 1), 1 << 63, nil},
	} {
		u, rest, e := Take(c.b)
		if u != c.u || !bytes.Equal(rest, c.rest) || e != api.OK {
			t.Errorf("Take(%v) = %d, %v, %v", c.b, u, rest, e)
		}
	}
}

// wrongBytes are beginnings that are no number, each with the error that is named first.
func wrongBytes() map[api.Errno][][]byte {
	return map[api.Errno][][]byte{
		api.ErrShort: {nil, {}, {128}, {255, 255}, high(9), bytes.Repeat([]byte{128}, 9)},
		api.ErrForm: {
			{128, 0}, {255, 0}, {128, 128, 0}, {128, 0, 1}, high(8, 0),
			high(9, 0), high(9, 2), high(9, 127), high(9, 3, 1),
			high(10), high(10, 0), high(10, 1), high(11), bytes.Repeat([]byte{128}, 10),
		},
	}
}

func TestTakeOfWrongBytes(t *testing.T) {
	for want, l := range wrongBytes() {
		for _, b := range l {
			if u, rest, e := Take(b); e != want || u != 0 || len(rest) != 0 {
				t.Errorf("Take(%v) = %d, %v, %v, want %v", b, u, rest, e, want)
			}
		}
	}
}

// wantTake is Take by another way: the library's, and beside it what the library takes otherwise.
func wantTake(b []byte) (uint64, int, api.Errno) {
	lasts := func(c byte) bool { return c < 128 }
	if len(b) >= 10 && !slices.ContainsFunc(b[:10], lasts) {
		return 0, 0, api.ErrForm
	}
	u, n := binary.Uvarint(b)
	switch {
	case n == 0:
		return 0, 0, api.ErrShort
	case n < 0, n != len(binary.AppendUvarint(nil, u)):
		return 0, 0, api.ErrForm
	}
	return u, n, api.OK
}

func TestTakeOfAnyBytes(t *testing.T) {
	check := func(b []byte) {
		wantU, n, wantE := wantTake(b)
		u, rest, e := Take(b)
		if u != wantU || e != wantE || e == api.OK && !bytes.Equal(rest, b[n:]) || e != api.OK && len(rest) != 0 {
			t.Fatalf("Take(%v) = %d, %v, %v, want %d, %v, %v", b, u, rest, e, wantU, b[n:], wantE)
		}
	}
	for two := range 1 << 16 {
		check([]byte{byte(two >> 8), byte(two)})
		check([]byte{byte(two>>8) | 128, byte(two), 7})
	}
	r := rand.New(rand.NewSource(2))
	for range 50000 {
		b := make([]byte, r.Intn(14))
		r.Read(b)
		for i := range b[:min(r.Intn(14), len(b))] {
			b[i] |= 128
		}
		check(b)
	}
}

// P1.3

func TestPutAllIsEachTurnedBehindAll(t *testing.T) {
	if got := PutAll([]byte{9}, []int64{0, -1, 1, -2, 150}); !bytes.Equal(got, []byte{9, 0, 1, 2, 3, 172, 2}) {
		t.Error(got)
	}
	if got := PutAll(nil, []int64{math.MinInt64, math.MaxInt64}); !bytes.Equal(got, append(high(9, 1), append([]byte{254}, high(8, 1)...)...)) {
		t.Error(got)
	}
	want := []byte{7}
	var l []int64
	for _, u := range many() {
		l = append(l, int64(u))
		want = Put(want, Zig(int64(u)))
	}
	if got := PutAll([]byte{7}, l); !bytes.Equal(got, want) {
		t.Error("many numbers' bytes are others than those of one by one")
	}
}

func TestTakeAllTakesSoManyAndNoMore(t *testing.T) {
	b := []byte{5, 172, 2, 0, 9, 8}
	all := []int64{-3, 150, 0, -5, 4}
	ends := []int{0, 1, 3, 4, 5, 6}
	for n := range ends {
		l, rest, e := TakeAll(b, n)
		if !slices.Equal(l, all[:n]) || !bytes.Equal(rest, b[ends[n]:]) || e != api.OK {
			t.Errorf("TakeAll(%v, %d) = %v, %v, %v", b, n, l, rest, e)
		}
	}
}

func TestTakeAllOfACountThatMayNotBe(t *testing.T) {
	for _, n := range []int{-1, math.MinInt, 1<<20 + 1, math.MaxInt} {
		for _, b := range [][]byte{nil, {1, 2}, {128}, {128, 0}, make([]byte, 1<<20+2)} {
			if l, rest, e := TakeAll(b, n); e != api.ErrArg || len(l) != 0 || len(rest) != 0 {
				t.Errorf("TakeAll of %d bytes, %d: %d numbers, %d left, %v", len(b), n, len(l), len(rest), e)
			}
		}
	}
}

func TestTakeAllOfTheGreatestCount(t *testing.T) {
	b := make([]byte, 1<<20+3)
	b[1<<20-1] = 3
	l, rest, e := TakeAll(b, 1<<20)
	if len(l) != 1<<20 || l[0] != 0 || l[1<<20-1] != -2 || len(rest) != 3 || e != api.OK {
		t.Error(len(l), len(rest), e)
	}
	if l, rest, e := TakeAll(b[:1<<20-1], 1<<20); e != api.ErrShort || len(l) != 0 || len(rest) != 0 {
		t.Error(len(l), len(rest), e)
	}
}

func TestTakeAllTellsTheFirstErrorOfTake(t *testing.T) {
	for want, l := range wrongBytes() {
		for _, wrong := range l {
			b := append([]byte{2, 172, 2}, wrong...)
			for _, n := range []int{3, 4, 1 << 20} {
				if l, rest, e := TakeAll(b, n); e != want || len(l) != 0 || len(rest) != 0 {
					t.Errorf("TakeAll(%v, %d) = %v, %v, %v, want %v", b, n, l, rest, e, want)
				}
			}
			if l, rest, e := TakeAll(b, 2); !slices.Equal(l, []int64{1, 150}) || !bytes.Equal(rest, wrong) || e != api.OK {
				t.Errorf("TakeAll(%v, 2) = %v, %v, %v", b, l, rest, e)
			}
		}
	}
	if _, _, e := TakeAll([]byte{128, 0, 128}, 2); e != api.ErrForm {
		t.Error("the form of the first number is told ahead of the second one's end:", e)
	}
}

// P1.4

func TestWhatWasPutIsTaken(t *testing.T) {
	tail := []byte{128, 0, 3}
	for _, u := range many() {
		got, rest, e := Take(append(Put(nil, u), tail...))
		if got != u || !bytes.Equal(rest, tail) || e != api.OK {
			t.Errorf("%d came back as %d, %v, %v", u, got, rest, e)
		}
		l, rest, e := TakeAll(append(PutAll(nil, []int64{int64(u), -7}), tail...), 2)
		if !slices.Equal(l, []int64{int64(u), -7}) || !bytes.Equal(rest, tail) || e != api.OK {
			t.Errorf("%d came back as %v, %v, %v", int64(u), l, rest, e)
		}
	}
}

func TestAGreaterNumberTakesNoFewerBytes(t *testing.T) {
	l := many()
	slices.Sort(l)
	for i := 1; i < len(l); i++ {
		if Size(l[i]) < Size(l[i-1]) || len(Put(nil, l[i])) < len(Put(nil, l[i-1])) {
			t.Errorf("%d takes fewer bytes than %d", l[i], l[i-1])
		}
	}
}

// What is handed in, and what is answered (rule 4).

func TestPutLeavesWhatIsHandedIn(t *testing.T) {
	for _, b := range [][]byte{nil, {}, {1, 2, 3}} {
		part, whole := guarded(b)
		was := slices.Clone(whole)
		first, second := Put(part, math.MaxUint64), Put(part, 300)
		want := slices.Clone(second)
		scribble(first)
		if !bytes.Equal(whole, was) || !bytes.Equal(second, want) {
			t.Error("Put shares memory:", whole, second)
		}
		scribble(whole)
		if !bytes.Equal(second, want) {
			t.Error("Put keeps what was handed in:", second)
		}
	}
}

func TestTakeLeavesWhatIsHandedIn(t *testing.T) {
	for _, b := range [][]byte{{172, 2}, {172, 2, 4, 5}} {
		part, whole := guarded(b)
		was := slices.Clone(whole)
		_, first, _ := Take(part)
		_, second, _ := Take(part)
		scribble(first)
		if !bytes.Equal(whole, was) || !bytes.Equal(second, b[2:]) {
			t.Error("Take shares memory:", whole, second)
		}
		scribble(whole)
		if !bytes.Equal(second, b[2:]) {
			t.Error("Take keeps what was handed in:", second)
		}
	}
}

func TestPutAllLeavesWhatIsHandedIn(t *testing.T) {
	for _, l := range [][]int64{nil, {-1}, {5, math.MinInt64, 7}} {
		part, whole := guarded([]byte{1, 2, 3})
		was := slices.Clone(whole)
		numbers := append(slices.Clone(l), 11, 12)
		first, second := PutAll(part, numbers[:len(l)]), PutAll(part, numbers[:len(l)])
		want := slices.Clone(second)
		scribble(first)
		if !bytes.Equal(whole, was) || !slices.Equal(numbers, append(slices.Clone(l), 11, 12)) || !bytes.Equal(second, want) {
			t.Error("PutAll shares memory:", whole, numbers, second)
		}
		scribble(whole)
		scribble(numbers)
		if !bytes.Equal(second, want) {
			t.Error("PutAll keeps what was handed in:", second)
		}
	}
}

func TestTakeAllLeavesWhatIsHandedIn(t *testing.T) {
	for n := range 4 {
		b := []byte{2, 4, 6}
		part, whole := guarded(b)
		was := slices.Clone(whole)
		numbers, rest, _ := TakeAll(part, n)
		numbers2, rest2, _ := TakeAll(part, n)
		scribble(numbers)
		if !bytes.Equal(rest, b[n:]) {
			t.Error("TakeAll's two lists share memory:", rest)
		}
		scribble(rest)
		if !bytes.Equal(whole, was) {
			t.Error("TakeAll shares memory with what was handed in:", whole)
		}
		scribble(whole)
		if !slices.Equal(numbers2, []int64{1, 2, 3}[:n]) || !bytes.Equal(rest2, b[n:]) {
			t.Error("TakeAll's answers share memory:", numbers2, rest2)
		}
	}
}

func TestNilAndEmptyListsAreOne(t *testing.T) {
	if !bytes.Equal(Put(nil, 5), Put([]byte{}, 5)) {
		t.Error("Put")
	}
	if len(PutAll(nil, nil)) != 0 || len(PutAll([]byte{}, []int64{})) != 0 {
		t.Error("PutAll")
	}
	for _, b := range [][]byte{nil, {}} {
		if l, rest, e := TakeAll(b, 0); len(l) != 0 || len(rest) != 0 || e != api.OK {
			t.Error("TakeAll", l, rest, e)
		}
	}
}

func TestNumbersEndWhereTheLoopIsLeft(t *testing.T) {
	for told := range numbers([]byte{2, 4, 6}, 3) {
		if told.end == 2 {
			break
		}
		if told.u != 2 {
			t.Error("told behind the place where the loop was left:", told)
		}
	}
}
