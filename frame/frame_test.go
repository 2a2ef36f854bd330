package frame

import (
	"bytes"
	"encoding/binary"
	"hash/crc32"
	"math"
	"math/rand"
	"slices"
	"testing"

	"esker/api"
)

// wantSum is the sum by the document's words, bit by bit.
func wantSum(b []byte) uint32 {
	register := uint32(math.MaxUint32)
	for _, c := range b {
		register ^= uint32(c)
		for range 8 {
			if register%2 == 1 {
				register = register>>1 ^ 3988292384
			} else {
				register >>= 1
			}
		}
	}
	return register ^ math.MaxUint32
}

// wantFrame is a frame by the library's means, whatever the body's length.
func wantFrame(kind byte, body []byte) []byte {
	b := binary.AppendUvarint([]byte{kind}, uint64(len(body)))
	b = append(b, body...)
	return binary.BigEndian.AppendUint32(b, crc32.ChecksumIEEE(b))
}

// rough is n bytes that no rule tells.
func rough(n int) []byte {
	b := make([]byte, n)
	rand.New(rand.NewSource(int64(n))).Read(b)
	return b
}

// kindsToMake are both ends of kinds, and some between.
func kindsToMake() []int { return []int{0, 1, 3, 127, 128, 254, 255} }

// bodies are of the lengths at which a length takes a byte more, and at which it is too great.
func bodies() [][]byte {
	l := [][]byte{nil, {}, {0}, {255}, []byte("a"), []byte("123456789")}
	for _, n := range []int{1, 126, 127, 128, 129, 16383, 16384, 65534, 65535} {
		l = append(l, rough(n), make([]byte, n))
	}
	return l
}

// made is a frame that there must be.
func made(t *testing.T, kind int, body []byte) []byte {
	t.Helper()
	f, e := Make(kind, body)
	if e != api.OK {
		t.Fatalf("Make(%d, %d bytes) = %v", kind, len(body), e)
	}
	return f
}

// refused checks that bytes are no frame, neither for Next nor for Only, and that nothing is told beside the error.
func refused(t *testing.T, b []byte, kind int, want api.Errno) {
	t.Helper()
	if k, body, rest, e := Next(b); k != 0 || len(body) != 0 || len(rest) != 0 || e != want {
		t.Errorf("Next(%v of %d) = %d, %d bytes, %d bytes, %v, want %v", short(b), len(b), k, len(body), len(rest), e, want)
	}
	if body, e := Only(b, kind); len(body) != 0 || e != want {
		t.Errorf("Only(%v of %d, %d) = %d bytes, %v, want %v", short(b), len(b), kind, len(body), e, want)
	}
}

// short is as many of the bytes as a report needs.
func short(b []byte) []byte { return b[:min(len(b), 14)] }

// P5.1

func TestSumOfTheExamples(t *testing.T) {
	for _, c := range []struct {
		b    []byte
		want uint32
	}{
		{[]byte("123456789"), 3421780262}, {nil, 0}, {[]byte{}, 0},
	} {
		if got := Sum(c.b); got != c.want {
			t.Errorf("Sum(%q) = %d, want %d", c.b, got, c.want)
		}
	}
}

func TestSumIsThatOfTheWords(t *testing.T) {
	check := func(b []byte) {
		if got, want := Sum(b), wantSum(b); got != want || want != crc32.ChecksumIEEE(b) {
			t.Errorf("Sum(%v of %d) = %d, want %d", short(b), len(b), got, want)
		}
	}
	for two := range 1 << 16 {
		check([]byte{byte(two >> 8), byte(two)})
	}
	for c := range 256 {
		check([]byte{byte(c)})
	}
	for n := range 300 {
		check(rough(n))
		check(make([]byte, n))
		check(bytes.Repeat([]byte{255}, n))
	}
	for _, b := range bodies() {
		check(b)
	}
	check(rough(1 << 20))
}

func TestMakeIsTheFrame(t *testing.T) {
	for _, kind := range kindsToMake() {
		for _, body := range bodies() {
			f, e := Make(kind, body)
			if want := wantFrame(byte(kind), body); !bytes.Equal(f, want) || e != api.OK {
				t.Errorf("Make(%d, %v of %d) = %v of %d, %v, want %v of %d", kind, short(body), len(body), short(f), len(f), e, short(want), len(want))
			}
		}
	}
}

func TestMakeWritesTheLengthAsVarintAndTheSumFromTheHighestByteOn(t *testing.T) {
	for _, c := range []struct {
		kind, n int
		head    []byte
	}{
		{0, 0, []byte{0, 0}}, {255, 0, []byte{255, 0}}, {7, 1, []byte{7, 1}}, {7, 127, []byte{7, 127}},
		{7, 128, []byte{7, 128, 1}}, {128, 300, []byte{128, 172, 2}}, {7, 65535, []byte{7, 255, 255, 3}},
	} {
		body := rough(c.n)
		f := made(t, c.kind, body)
		end := len(c.head) + c.n
		if len(f) != end+4 || !bytes.Equal(f[:end], slices.Concat(c.head, body)) {
			t.Errorf("kind %d, %d bytes: %v of %d", c.kind, c.n, short(f), len(f))
			continue
		}
		s := wantSum(f[:end])
		if !bytes.Equal(f[end:], []byte{byte(s >> 24), byte(s >> 16), byte(s >> 8), byte(s)}) {
			t.Errorf("kind %d, %d bytes: the sum %d as %v", c.kind, c.n, s, f[end:])
		}
	}
	if f := made(t, 3, []byte("a")); !bytes.Equal(f[:3], []byte{3, 1, 97}) || len(f) != 7 {
		t.Error("the document's example:", f)
	}
}

func TestMakeOfAKindThatMayNotBeIsNamedAheadOfABodyThatIsTooLong(t *testing.T) {
	for _, kind := range []int{-1, 256, 257, 512, -256, math.MinInt, math.MaxInt} {
		for _, n := range []int{0, 1, 65535, 65536, 1 << 17} {
			if f, e := Make(kind, make([]byte, n)); len(f) != 0 || e != api.ErrArg {
				t.Errorf("Make(%d, %d bytes) = %d bytes, %v", kind, n, len(f), e)
			}
		}
	}
}

func TestMakeOfABodyThatIsTooLong(t *testing.T) {
	for _, kind := range kindsToMake() {
		for _, n := range []int{65536, 65537, 1 << 17} {
			if f, e := Make(kind, make([]byte, n)); len(f) != 0 || e != api.ErrLimit {
				t.Errorf("Make(%d, %d bytes) = %d bytes, %v", kind, n, len(f), e)
			}
		}
	}
}

// P5.2

func TestNextIsTheKindTheBodyAndWhatLiesBehind(t *testing.T) {
	for _, kind := range kindsToMake() {
		for _, body := range bodies() {
			for _, behind := range [][]byte{nil, {0}, {9, 128}, rough(200)} {
				b := append(wantFrame(byte(kind), body), behind...)
				k, got, rest, e := Next(b)
				if k != kind || !bytes.Equal(got, body) || !bytes.Equal(rest, behind) || e != api.OK {
					t.Errorf("Next(%v of %d) = %d, %v of %d, %v of %d, %v", short(b), len(b), k, short(got), len(got), short(rest), len(rest), e)
				}
			}
		}
	}
}

func TestNextTellsTheErrorThatIsNamedFirst(t *testing.T) {
	full := bytes.Repeat([]byte{255}, 10)
	tooGreat := wantFrame(3, make([]byte, 65536))
	for _, c := range []struct {
		b []byte
		e api.Errno
	}{
		// Nothing.
		{nil, api.ErrShort}, {[]byte{}, api.ErrShort},
		// The length, as varint says, whatever the kind is and whatever follows.
		{[]byte{0}, api.ErrShort}, {[]byte{255}, api.ErrShort}, {[]byte{3, 128}, api.ErrShort}, {[]byte{3, 255, 255}, api.ErrShort},
		{append([]byte{3}, full[1:]...), api.ErrShort}, {append([]byte{3}, full...), api.ErrForm}, {slices.Concat([]byte{3}, full, full), api.ErrForm},
		{[]byte{3, 128, 0}, api.ErrForm}, {[]byte{3, 128, 0, 0, 0, 0, 0}, api.ErrForm}, {[]byte{3, 129, 0, 97, 1, 2, 3, 4}, api.ErrForm},
		{slices.Concat([]byte{3}, full[1:], []byte{2}), api.ErrForm}, {slices.Concat([]byte{3}, full[1:], []byte{0}), api.ErrForm},
		{[]byte{3, 255, 255, 131, 0}, api.ErrForm},
		// A length that is too great, ahead of bytes that are too few, and ahead of a sum that is right.
		{[]byte{3, 128, 128, 4}, api.ErrForm}, {[]byte{3, 128, 128, 4, 0}, api.ErrForm}, {tooGreat, api.ErrForm}, {tooGreat[:70], api.ErrForm},
		{binary.AppendUvarint([]byte{3}, 1<<32), api.ErrForm}, {binary.AppendUvarint([]byte{3}, 1<<32+1), api.ErrForm},
		{binary.AppendUvarint([]byte{3}, 1<<63), api.ErrForm}, {binary.AppendUvarint([]byte{3}, math.MaxUint64), api.ErrForm},
		{append(binary.AppendUvarint([]byte{3}, math.MaxUint64-2), make([]byte, 90)...), api.ErrForm},
		// Too few bytes, ahead of a sum that is another one.
		{[]byte{3, 0}, api.ErrShort}, {[]byte{3, 0, 0, 0, 0}, api.ErrShort}, {[]byte{3, 1}, api.ErrShort}, {[]byte{3, 1, 97, 0, 0, 0}, api.ErrShort},
		{[]byte{3, 5, 1, 2, 3, 4, 5}, api.ErrShort}, {[]byte{3, 255, 255, 3}, api.ErrShort}, {append([]byte{3, 255, 255, 3}, make([]byte, 65538)...), api.ErrShort},
		// A sum that is another one, whatever follows.
		{[]byte{3, 0, 0, 0, 0, 0}, api.ErrSum}, {[]byte{0, 0, 0, 0, 0, 0}, api.ErrSum}, {[]byte{3, 1, 97, 0, 0, 0, 0}, api.ErrSum}, {[]byte{3, 1, 97, 0, 0, 0, 0, 1, 2}, api.ErrSum},
		{append([]byte{3, 255, 255, 3}, make([]byte, 65539)...), api.ErrSum}, {append([]byte{3, 255, 255, 3}, make([]byte, 65540)...), api.ErrSum},
	} {
		refused(t, c.b, 3, c.e)
	}
}

func TestNextWantsTheSumOfAllAheadFromTheHighestByteOn(t *testing.T) {
	for _, kind := range []byte{0, 3, 255} {
		for _, body := range [][]byte{nil, []byte("a"), rough(128)} {
			f := wantFrame(kind, body)
			end := len(f) - 4
			turned := slices.Clone(f)
			slices.Reverse(turned[end:])
			bodysAlone := binary.BigEndian.AppendUint32(slices.Clone(f[:end]), crc32.ChecksumIEEE(body))
			withoutKind := binary.BigEndian.AppendUint32(slices.Clone(f[:end]), crc32.ChecksumIEEE(f[1:end]))
			for _, b := range [][]byte{turned, bodysAlone, withoutKind} {
				refused(t, b, int(kind), api.ErrSum)
			}
		}
	}
}

// wantNext is Next by the document's words, with the library's numbers.
func wantNext(b []byte) (int, []byte, []byte, api.Errno) {
	if len(b) == 0 {
		return 0, nil, nil, api.ErrShort
	}
	lasts := func(c byte) bool { return c < 128 }
	if len(b) >= 11 && !slices.ContainsFunc(b[1:11], lasts) {
		return 0, nil, nil, api.ErrForm
	}
	u, n := binary.Uvarint(b[1:])
	switch {
	case n == 0:
		return 0, nil, nil, api.ErrShort
	case n < 0, n != len(binary.AppendUvarint(nil, u)), u > 65535:
		return 0, nil, nil, api.ErrForm
	case uint64(len(b)-1-n) < u+4:
		return 0, nil, nil, api.ErrShort
	}
	end := 1 + n + int(u)
	if binary.BigEndian.Uint32(b[end:]) != wantSum(b[:end]) {
		return 0, nil, nil, api.ErrSum
	}
	return int(b[0]), b[1+n : end], b[end+4:], api.OK
}

func TestNextAndOnlyOfAnyBytes(t *testing.T) {
	taken := 0
	check := func(b []byte) {
		wantKind, wantBody, wantRest, wantE := wantNext(b)
		k, body, rest, e := Next(b)
		if k != wantKind || !bytes.Equal(body, wantBody) || !bytes.Equal(rest, wantRest) || e != wantE {
			t.Fatalf("Next(%v) = %d, %v, %v, %v, want %d, %v, %v, %v", b, k, body, rest, e, wantKind, wantBody, wantRest, wantE)
		}
		if wantE == api.OK {
			taken++
		}
		for _, kind := range []int{0, 3, wantKind, wantKind + 256} {
			want, wantE := wantBody, wantE
			if wantE == api.OK && (len(wantRest) > 0 || kind != wantKind) {
				want, wantE = nil, api.ErrForm
			}
			if body, e := Only(b, kind); !bytes.Equal(body, want) || e != wantE {
				t.Fatalf("Only(%v, %d) = %v, %v, want %v, %v", b, kind, body, e, want, wantE)
			}
		}
	}
	for two := range 1 << 16 {
		check([]byte{byte(two >> 8), byte(two)})
		check([]byte{3, byte(two >> 8), byte(two), 0, 0, 0, 0, 9})
	}
	r := rand.New(rand.NewSource(3))
	for i := range 50000 {
		b := make([]byte, r.Intn(24))
		r.Read(b)
		if i%2 == 0 && len(b) > 1 {
			b[1] %= 24
		}
		if i%4 == 0 {
			b = append(wantFrame(byte(r.Intn(5)), b), rough(r.Intn(3))...)
			b[r.Intn(len(b))] ^= byte(r.Intn(2) << r.Intn(8))
		}
		check(b)
	}
	if taken < 1000 {
		t.Error("too few of the bytes were frames:", taken)
	}
}

// P5.3

func TestOnlyIsTheBodyOfOneFrameOfTheKind(t *testing.T) {
	for _, kind := range kindsToMake() {
		for _, body := range bodies() {
			got, e := Only(wantFrame(byte(kind), body), kind)
			if !bytes.Equal(got, body) || e != api.OK {
				t.Errorf("kind %d, %d bytes: %d bytes, %v", kind, len(body), len(got), e)
			}
		}
	}
}

func TestOnlyOfAnotherKindOrWithBytesBehind(t *testing.T) {
	for _, body := range [][]byte{nil, []byte("a"), rough(128), rough(65535)} {
		for _, kind := range []int{0, 3, 255} {
			f := wantFrame(byte(kind), body)
			for _, other := range []int{kind - 1, kind + 1, kind ^ 128, kind + 256, kind - 256, math.MinInt, math.MaxInt} {
				for _, b := range [][]byte{f, append(slices.Clone(f), 0)} {
					if got, e := Only(b, other); len(got) != 0 || e != api.ErrForm {
						t.Errorf("Only of kind %d asked for %d: %d bytes, %v", kind, other, len(got), e)
					}
				}
			}
			for _, behind := range [][]byte{{0}, {255, 1}, f} {
				if got, e := Only(slices.Concat(f, behind), kind); len(got) != 0 || e != api.ErrForm {
					t.Errorf("Only with %d bytes behind: %d bytes, %v", len(behind), len(got), e)
				}
			}
		}
	}
}

func TestOnlyTellsNextsErrorAheadOfItsOwn(t *testing.T) {
	f := wantFrame(3, []byte("ab"))
	wrongSum := slices.Clone(f)
	wrongSum[len(f)-1] ^= 1
	for _, kind := range []int{3, 4, -1, 256} {
		for _, c := range []struct {
			b []byte
			e api.Errno
		}{
			{nil, api.ErrShort}, {f[:1], api.ErrShort}, {f[:len(f)-1], api.ErrShort}, {[]byte{3, 128, 0}, api.ErrForm},
			{wrongSum, api.ErrSum}, {append(slices.Clone(wrongSum), 7), api.ErrSum},
		} {
			if got, e := Only(c.b, kind); len(got) != 0 || e != c.e {
				t.Errorf("Only(%v, %d) = %v, %v, want %v", c.b, kind, got, e, c.e)
			}
		}
	}
}

// P5.4

func TestWhatWasMadeIsTaken(t *testing.T) {
	for _, kind := range kindsToMake() {
		for _, body := range bodies() {
			f := made(t, kind, body)
			if k, got, rest, e := Next(f); k != kind || !bytes.Equal(got, body) || len(rest) != 0 || e != api.OK {
				t.Errorf("kind %d, %d bytes came back as %d, %d bytes, %d behind, %v", kind, len(body), k, len(got), len(rest), e)
			}
			if got, e := Only(f, kind); !bytes.Equal(got, body) || e != api.OK {
				t.Errorf("kind %d, %d bytes came back as %d bytes, %v", kind, len(body), len(got), e)
			}
		}
	}
}

func TestFramesAreTakenOneBehindAnother(t *testing.T) {
	var b []byte
	for i, body := range bodies() {
		b = append(b, made(t, i*9%256, body)...)
	}
	for i, body := range bodies() {
		k, got, rest, e := Next(b)
		if k != i*9%256 || !bytes.Equal(got, body) || e != api.OK {
			t.Fatalf("frame %d: %d, %d bytes, %v, want %d, %d bytes", i, k, len(got), e, i*9%256, len(body))
		}
		b = rest
	}
	if len(b) != 0 {
		t.Error("behind the last frame:", short(b))
	}
	refused(t, b, 0, api.ErrShort)
}

// bitsToTurn are the bits of a frame but for those of its length; of a great body each one of its ends, and some between.
func bitsToTurn(f []byte, bodySize int) []int {
	l := []int{0, 1, 2, 3, 4, 5, 6, 7}
	from := len(f) - 4 - bodySize
	for bit := 8 * from; bit < 8*len(f); bit++ {
		inside := bit - 8*from
		if bodySize <= 300 || inside < 64 || bit >= 8*(len(f)-12) || inside%4999 == 0 {
			l = append(l, bit)
		}
	}
	return l
}

func TestAFrameWithOneBitTurnedIsNone(t *testing.T) {
	for _, kind := range []int{0, 3, 255} {
		for _, n := range []int{0, 1, 2, 127, 128, 300, 65535} {
			f := made(t, kind, rough(n))
			for _, bit := range bitsToTurn(f, n) {
				mask := byte(1) << (bit % 8)
				f[bit/8] ^= mask
				refused(t, f, int(f[0]), api.ErrSum)
				f[bit/8] ^= mask
			}
			if _, e := Only(f, kind); e != api.OK {
				t.Fatal("all bits were turned back:", e)
			}
		}
	}
}

func TestAFrameThatIsCutShortIsNone(t *testing.T) {
	for _, kind := range []int{0, 3, 255} {
		for _, n := range []int{0, 1, 127, 128, 300, 16384, 65535} {
			f := made(t, kind, rough(n))
			for end := range f {
				refused(t, f[:end], kind, api.ErrShort)
			}
		}
	}
}

// What is handed in, and what is answered (rule 4).

// scribble changes all of a list, the room behind its end included.
func scribble(b []byte) {
	for i := range b[:cap(b)] {
		b[:cap(b)][i] ^= 255
	}
}

// guarded lays b into a greater array that is full of marks behind its end.
func guarded(b []byte) (part, whole []byte) {
	whole = append(slices.Clone(b), bytes.Repeat([]byte{0xEE}, 40)...)
	return whole[:len(b)], whole
}

func TestSumLeavesWhatIsHandedIn(t *testing.T) {
	part, whole := guarded([]byte("123456789"))
	was := slices.Clone(whole)
	if got := Sum(part); got != 3421780262 || !bytes.Equal(whole, was) {
		t.Error("Sum takes or changes more than is handed in:", got, whole)
	}
}

func TestMakeLeavesWhatIsHandedIn(t *testing.T) {
	for _, n := range []int{0, 1, 127, 128, 65535} {
		part, whole := guarded(rough(n))
		was := slices.Clone(whole)
		first, second := made(t, 3, part), made(t, 3, part)
		want := slices.Clone(second)
		scribble(first)
		if !bytes.Equal(whole, was) || !bytes.Equal(second, want) {
			t.Errorf("%d bytes: Make shares memory", n)
		}
		scribble(whole)
		if !bytes.Equal(second, want) {
			t.Errorf("%d bytes: Make keeps what was handed in", n)
		}
	}
}

func TestNextLeavesWhatIsHandedIn(t *testing.T) {
	for _, n := range []int{0, 1, 127, 128, 65535} {
		for _, behind := range [][]byte{nil, {7}, rough(90)} {
			content := rough(n)
			part, whole := guarded(append(wantFrame(3, content), behind...))
			was := slices.Clone(whole)
			_, body, rest, _ := Next(part)
			_, body2, rest2, _ := Next(part)
			scribble(body)
			if !bytes.Equal(rest, behind) {
				t.Errorf("%d bytes: Next's two lists share memory", n)
			}
			scribble(rest)
			if !bytes.Equal(whole, was) {
				t.Errorf("%d bytes: Next shares memory with what was handed in", n)
			}
			scribble(whole)
			if !bytes.Equal(body2, content) || !bytes.Equal(rest2, behind) {
				t.Errorf("%d bytes: Next's answers share memory", n)
			}
		}
	}
}

func TestOnlyLeavesWhatIsHandedIn(t *testing.T) {
	for _, n := range []int{0, 1, 127, 128, 65535} {
		content := rough(n)
		part, whole := guarded(wantFrame(3, content))
		was := slices.Clone(whole)
		first, _ := Only(part, 3)
		second, _ := Only(part, 3)
		scribble(first)
		if !bytes.Equal(whole, was) {
			t.Errorf("%d bytes: Only shares memory with what was handed in", n)
		}
		scribble(whole)
		if !bytes.Equal(second, content) {
			t.Errorf("%d bytes: Only's answers share memory", n)
		}
	}
}

func TestWhatIsRefusedIsLeftAsItWas(t *testing.T) {
	f := wantFrame(3, []byte("ab"))
	wrong := slices.Clone(f)
	wrong[2] ^= 1
	for _, b := range [][]byte{f[:1], f[:len(f)-1], {3, 128, 0}, wrong} {
		part, whole := guarded(b)
		was := slices.Clone(whole)
		Next(part)
		Only(part, 3)
		if !bytes.Equal(whole, was) {
			t.Errorf("%v was changed", b)
		}
	}
}

func TestNilAndEmptyBodiesAreOne(t *testing.T) {
	if f := made(t, 9, nil); !bytes.Equal(f, made(t, 9, []byte{})) {
		t.Error(f)
	}
}
