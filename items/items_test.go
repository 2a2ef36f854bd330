package items

import (
	"bytes"
	"encoding/binary"
	"math"
	"math/rand"
	"slices"
	"strings"
	"testing"

	"esker/api"
)

// itemsOf is items out of texts.
func itemsOf(texts ...string) [][]byte {
	var l [][]byte
	for _, s := range texts {
		l = append(l, []byte(s))
	}
	return l
}

// same tells whether two rows have the same items.
func same(a, b [][]byte) bool { return slices.EqualFunc(a, b, bytes.Equal) }

// long is an item of n bytes, all of them c.
func long(n int, c byte) []byte { return bytes.Repeat([]byte{c}, n) }

// numbers are the bytes of numbers, one behind another.
func numbers(l ...uint64) []byte {
	var b []byte
	for _, u := range l {
		b = binary.AppendUvarint(b, u)
	}
	return b
}

// coded is one item in a block's bytes: how many bytes it has from the one ahead, how many are left, and these.
func coded(alike uint64, left string) []byte {
	return append(numbers(alike, uint64(len(left))), left...)
}

// blockOf is a count, and the parts behind it.
func blockOf(count uint64, parts ...[]byte) []byte {
	return append(numbers(count), slices.Concat(parts...)...)
}

// wantCheck is whether items may be a block, by the document's words.
func wantCheck(l [][]byte) api.Errno {
	if len(l) > 8 {
		return api.ErrLimit
	}
	for i, item := range l {
		if len(item) == 0 || len(item) > 400 || i > 0 && !(string(l[i-1]) < string(item)) {
			return api.ErrArg
		}
	}
	if len(l) == 0 {
		return api.ErrArg
	}
	return api.OK
}

// wantCommon tries all beginnings, the longest first.
func wantCommon(a, b []byte) int {
	n := len(a)
	for !bytes.HasPrefix(b, a[:n]) {
		n--
	}
	return n
}

// wantPack is a block's bytes, by the document's words.
func wantPack(l [][]byte) ([]byte, api.Errno) {
	if e := wantCheck(l); e != api.OK {
		return nil, e
	}
	b := numbers(uint64(len(l)))
	for i, item := range l {
		n := 0
		if i > 0 {
			n = wantCommon(l[i-1], item)
		}
		b = append(b, coded(uint64(n), string(item[n:]))...)
	}
	return b, api.OK
}

// wantNumber takes a number off b, by what the document says of errors.
func wantNumber(b []byte) (uint64, []byte, api.Errno) {
	n := 0
	for n < 10 && n < len(b) && b[n] >= 128 {
		n++
	}
	if n == 10 {
		return 0, nil, api.ErrForm
	}
	if n == len(b) {
		return 0, nil, api.ErrShort
	}
	u, size := binary.Uvarint(b)
	if size <= 0 || !bytes.Equal(numbers(u), b[:size]) {
		return 0, nil, api.ErrForm
	}
	return u, b[size:], api.OK
}

// wantUnpack takes number by number, and asks at the end whether all is as Pack makes it.
func wantUnpack(b []byte) ([][]byte, api.Errno) {
	count, rest, e := wantNumber(b)
	if e != api.OK {
		return nil, e
	}
	if count > 400 {
		return nil, api.ErrForm
	}
	var l [][]byte
	ahead := ""
	for range count {
		var alike, left uint64
		if alike, rest, e = wantNumber(rest); e != api.OK {
			return nil, e
		}
		if alike > 400 || alike > uint64(len(ahead)) {
			return nil, api.ErrForm
		}
		if left, rest, e = wantNumber(rest); e != api.OK {
			return nil, e
		}
		if left > 400 {
			return nil, api.ErrForm
		}
		if left > uint64(len(rest)) {
			return nil, api.ErrShort
		}
		ahead = ahead[:alike] + string(rest[:left])
		l, rest = append(l, []byte(ahead)), rest[left:]
	}
	if again, e := wantPack(l); e != api.OK || string(again) != string(b) {
		return nil, api.ErrForm
	}
	return l, api.OK
}

// wantSeek counts the items that are ahead.
func wantSeek(l [][]byte, item []byte) int {
	n := 0
	for _, one := range l {
		if string(one) < string(item) {
			n++
		}
	}
	return n
}

// anyItem is an item of few bytes' kinds, so that items begin alike, short mostly, now and then as long as may be.
func anyItem(r *rand.Rand, least, most int) []byte {
	n := least + r.Intn(6)
	if r.Intn(8) == 0 {
		n = least + r.Intn(most-least+1)
	}
	b := make([]byte, n)
	for i := range b {
		b[i] = []byte{0, 0, 1, 'a', 'b', 255}[r.Intn(6)]
		if i > 6 {
			b[i] = 'z' // long ones are alike for long
		}
	}
	return b
}

// anyRising are up to so many items that rise.
func anyRising(r *rand.Rand, most int) [][]byte {
	var l [][]byte
	for range r.Intn(most + 1) {
		l = append(l, anyItem(r, 1, 400))
	}
	slices.SortFunc(l, bytes.Compare)
	return slices.CompactFunc(l, bytes.Equal)
}

// anyItems are items that mostly rise, and now and then may not be a block.
func anyItems(r *rand.Rand) [][]byte {
	l := anyRising(r, 10)
	if len(l) > 0 && r.Intn(2) == 0 {
		l[r.Intn(len(l))] = anyItem(r, 0, 402)
	}
	return l
}

// blocksThatMayBe are blocks of each count, with the shortest and the longest items, and all bytes among them.
func blocksThatMayBe() [][][]byte {
	l := [][][]byte{
		itemsOf("ab", "abc", "b"), itemsOf("a"), itemsOf("\x00"), itemsOf("\xff"), itemsOf("\x00", "\x00\x00", "\x00\x00\x00", "\x00\x01", "\x01"),
		itemsOf("a", "a\x00", "a\x00\x00", "a\x01", "aa", "b"), itemsOf("\xfe\xff", "\xff", "\xff\x00", "\xff\xff"), itemsOf("a", "ab", "abc", "abcd", "abcde", "abcdef", "abcdefg", "abcdefgh"),
		itemsOf("abcdefgh", "abcdefgi", "abcdefh", "abcdeg", "abcdf", "abce", "abd", "b"), itemsOf("\x7f", "\x80"), itemsOf("7", "8", "9"),
	}
	for n := 1; n <= 8; n++ {
		short, great, tails := [][]byte{}, [][]byte{}, [][]byte{}
		for i := range n {
			short = append(short, []byte{byte(36 * i)})
			great = append(great, long(400, byte(i+1)))
			tails = append(tails, append(long(399, 255), byte(i)))
		}
		l = append(l, short, great, tails)
	}
	for from := 0; from < 256; from += 8 {
		var each [][]byte
		for c := from; c < from+8; c++ {
			each = append(each, []byte{byte(c)})
		}
		l = append(l, each)
	}
	for _, n := range []int{1, 2, 126, 127, 128, 129, 255, 256, 257, 399} { // numbers of one byte and of two, in each place
		l = append(l, [][]byte{long(n, 'a'), long(n+1, 'a')}, [][]byte{long(n, 'a'), long(400, 'a')}, [][]byte{long(400, 'a'), append(long(n-1, 'a'), 'b')}, [][]byte{long(n, 'a'), long(n, 'b')})
	}
	return l
}

// pack is what Pack makes of a block that may be.
func pack(t *testing.T, l [][]byte) []byte {
	t.Helper()
	b, e := Pack(l)
	if e != api.OK || len(b) == 0 {
		t.Fatalf("Pack(%q) = %q, %v", l, b, e)
	}
	return b
}

// refused holds Unpack of bytes against an error.
func refused(t *testing.T, b []byte, want api.Errno) {
	t.Helper()
	if l, e := Unpack(b); e != want || len(l) != 0 {
		t.Errorf("Unpack(%.60q) = %q, %v, want %v", b, l, e, want)
	}
}

// P9.1

// checked holds Check of items, and Pack of them, against an error.
func checked(t *testing.T, l [][]byte, want api.Errno) {
	t.Helper()
	if e := Check(l); e != want {
		t.Errorf("Check(%.60q) = %v, want %v", l, e, want)
	}
	if b, e := Pack(l); e != want || (len(b) > 0) != (want == api.OK) {
		t.Errorf("Pack(%.60q) = %.60q, %v, want %v", l, b, e, want)
	}
}

func TestCheckCountsItems(t *testing.T) {
	l := itemsOf("a", "b", "c", "d", "e", "f", "g", "h", "i", "j", "k", "l", "m", "n", "o", "p", "q")
	checked(t, nil, api.ErrArg)
	checked(t, [][]byte{}, api.ErrArg)
	for n := 1; n <= 8; n++ {
		checked(t, l[:n], api.OK)
	}
	for n := 9; n <= len(l); n++ {
		checked(t, l[:n], api.ErrLimit)
	}
}

func TestCheckOfItemsLengths(t *testing.T) {
	for n, want := range map[int]api.Errno{0: api.ErrArg, 1: api.OK, 2: api.OK, 127: api.OK, 128: api.OK, 399: api.OK, 400: api.OK, 401: api.ErrArg, 402: api.ErrArg, 800: api.ErrArg, 100000: api.ErrArg} {
		for _, c := range []byte{0, 'b', 255} {
			checked(t, [][]byte{long(n, c)}, want)
		}
		checked(t, [][]byte{[]byte("a"), long(n, 'b')}, want)
		checked(t, [][]byte{long(n, 'b'), []byte("c")}, want)
		checked(t, [][]byte{[]byte("a"), long(n, 'b'), []byte("c")}, want)
	}
}

func TestCheckOfItemsWithoutBytes(t *testing.T) {
	for _, l := range [][][]byte{{nil}, {{}}, {nil, nil}, {{}, {}}, itemsOf("", "a"), itemsOf("a", ""), itemsOf("a", "", "b"), itemsOf("a", "b", ""), itemsOf("", "\x00"), {nil, []byte("a")}} {
		checked(t, l, api.ErrArg)
	}
}

func TestCheckOfItemsThatRiseOrDont(t *testing.T) {
	for _, c := range []struct {
		a, b string
	}{
		{"a", "b"}, {"a", "ab"}, {"a", "a\x00"}, {"ab", "b"}, {"a\xff", "b"}, {"a\xff\xff", "b"}, {"\x00", "\x01"}, {"\x00", "\x00\x00"}, {"\xfe", "\xff"}, {"\xff", "\xff\x00"},
		{"\x7f", "\x80"}, {"A", "a"}, {"10", "9"}, {"a\x00\xff", "a\x01"}, {"ab", "abc"}, {"abc", "abd"}, {strings.Repeat("a", 399), strings.Repeat("a", 400)},
	} {
		checked(t, itemsOf(c.a, c.b), api.OK)
		checked(t, itemsOf(c.b, c.a), api.ErrArg)
		checked(t, itemsOf(c.a, c.a), api.ErrArg)
		checked(t, itemsOf(c.b, c.b), api.ErrArg)
		checked(t, itemsOf(c.a, c.b, c.b), api.ErrArg)
		checked(t, itemsOf(c.a, c.b, c.a), api.ErrArg)
		checked(t, itemsOf(c.a, c.a, c.b), api.ErrArg)
	}
	checked(t, itemsOf("a", "c", "b"), api.ErrArg)
	checked(t, itemsOf("b", "a", "c"), api.ErrArg)
	checked(t, itemsOf("a", "b", "c", "d", "e", "f", "g", "g"), api.ErrArg)
	checked(t, itemsOf("b", "a", "c", "d", "e", "f", "g", "h"), api.ErrArg)
	checked(t, itemsOf("c", "d", "a", "b"), api.ErrArg)
}

func TestCheckHoldsEachByteAgainstEachOther(t *testing.T) {
	for a := range 256 {
		for b := range 256 {
			want := api.ErrArg
			if a < b {
				want = api.OK
			}
			for _, ahead := range []string{"", "x", "\x00\xff"} {
				l := itemsOf(ahead+string([]byte{byte(a)}), ahead+string([]byte{byte(b)}))
				if e := Check(l); e != want {
					t.Errorf("Check(%q) = %v", l, e)
				}
			}
		}
	}
}

func TestTooManyItemsComeAheadOfAllElse(t *testing.T) {
	rising := itemsOf("a", "b", "c", "d", "e", "f", "g", "h", "i")
	for _, odd := range [][]byte{nil, {}, []byte("a"), []byte("z"), long(401, 'x')} {
		for at := range 9 {
			l := slices.Clone(rising)
			l[at] = odd
			checked(t, l, api.ErrLimit)
		}
	}
	checked(t, make([][]byte, 9), api.ErrLimit)
	checked(t, make([][]byte, 8), api.ErrArg)
	checked(t, slices.Repeat(itemsOf("a"), 9), api.ErrLimit)
	checked(t, slices.Repeat(itemsOf("a"), 8), api.ErrArg)
	checked(t, make([][]byte, 100000), api.ErrLimit)
}

func TestCommonOfSomeItems(t *testing.T) {
	for _, c := range []struct {
		a, b string
		want int
	}{
		{"", "", 0}, {"", "a", 0}, {"a", "a", 1}, {"abc", "abc", 3}, {"\x00", "\x00", 1}, {"\x00", "\x00\x00", 1}, {"\x00", "\x01", 0}, {"\xff\xff", "\xff\xfe", 1},
		{"a", "b", 0}, {"abc", "xbc", 0}, {"abc", "axc", 1}, {"abc", "abd", 2}, {"abcd", "abxd", 2}, {"ab", "abc", 2}, {"a", "abc", 1}, {"abc", "bc", 0}, {"a", "A", 0}, {"ab", "ba", 0},
	} {
		if ab, ba := Common([]byte(c.a), []byte(c.b)), Common([]byte(c.b), []byte(c.a)); ab != c.want || ba != c.want {
			t.Errorf("Common of %q and %q = %d, and the other way round %d, want %d", c.a, c.b, ab, ba, c.want)
		}
	}
	if Common(nil, nil) != 0 || Common([]byte{}, nil) != 0 || Common(nil, []byte("a")) != 0 {
		t.Error("Common of no bytes")
	}
}

func TestCommonOfItemsThatPartAnywhere(t *testing.T) {
	for _, n := range []int{1, 2, 3, 8, 9, 127, 128, 400, 401, 100000} {
		a := long(n, 'x')
		for _, at := range []int{0, 1, 7, 8, n / 2, n - 2, n - 1} {
			if at < 0 || at >= n {
				continue
			}
			b := slices.Clone(a)
			b[at] ^= 128
			if got := Common(a, b); got != at {
				t.Errorf("Common of %d bytes that part at %d = %d", n, at, got)
			}
			if got := Common(a, a[:at]); got != at {
				t.Errorf("Common of %d bytes and the first %d = %d", n, at, got)
			}
		}
		if got := Common(a, slices.Clone(a)); got != n {
			t.Errorf("Common of %d bytes that are alike = %d", n, got)
		}
	}
}

func TestAnyItemsAreCheckedAsTheWordsSay(t *testing.T) {
	r := rand.New(rand.NewSource(91))
	met := map[api.Errno]int{}
	for range 20000 {
		l := anyItems(r)
		want := wantCheck(l)
		met[want]++
		if e := Check(l); e != want {
			t.Fatalf("Check(%q) = %v, want %v", l, e, want)
		}
		a, b := anyItem(r, 0, 400), anyItem(r, 0, 400)
		if got := Common(a, b); got != wantCommon(a, b) {
			t.Fatalf("Common(%q, %q) = %d", a, b, got)
		}
	}
	if len(met) != 3 {
		t.Error("not all answers were asked for:", met)
	}
}

// P9.2

func TestPackOfTheExample(t *testing.T) {
	b := pack(t, itemsOf("ab", "abc", "b"))
	if want := []byte{3, 0, 2, 'a', 'b', 2, 1, 'c', 0, 1, 'b'}; !bytes.Equal(b, want) {
		t.Errorf("Pack = %v, want %v", b, want)
	}
	if l, e := Unpack(b); e != api.OK || !same(l, itemsOf("ab", "abc", "b")) {
		t.Errorf("Unpack = %q, %v", l, e)
	}
}

func TestPackOfSomeBlocks(t *testing.T) {
	x400 := strings.Repeat("x", 400)
	for _, c := range []struct {
		l    [][]byte
		want []byte
	}{
		{itemsOf("a"), []byte{1, 0, 1, 'a'}},
		{itemsOf("\x00"), []byte{1, 0, 1, 0}},
		{itemsOf("a", "b"), []byte{2, 0, 1, 'a', 0, 1, 'b'}},
		{itemsOf("a", "ab", "abc"), []byte{3, 0, 1, 'a', 1, 1, 'b', 2, 1, 'c'}},
		{itemsOf("a", "b", "ba"), []byte{3, 0, 1, 'a', 0, 1, 'b', 1, 1, 'a'}},
		{itemsOf("abc", "abd", "b"), []byte{3, 0, 3, 'a', 'b', 'c', 2, 1, 'd', 0, 1, 'b'}},
		{itemsOf(x400), append([]byte{1, 0, 144, 3}, x400...)},
		{itemsOf(x400[:399], x400), append(append([]byte{2, 0, 143, 3}, x400[:399]...), 143, 3, 1, 'x')},
		{itemsOf(x400[:127], x400[:128], x400[:129]), append(append([]byte{3, 0, 127}, x400[:127]...), 127, 1, 'x', 128, 1, 1, 'x')},
		{itemsOf("1", "2", "3", "4", "5", "6", "7", "8"), []byte("\x08\x00\x011\x00\x012\x00\x013\x00\x014\x00\x015\x00\x016\x00\x017\x00\x018")},
	} {
		if b := pack(t, c.l); !bytes.Equal(b, c.want) {
			t.Errorf("Pack(%q) = %q, want %q", c.l, b, c.want)
		}
		if l, e := Unpack(c.want); e != api.OK || !same(l, c.l) {
			t.Errorf("Unpack(%q) = %q, %v", c.want, l, e)
		}
	}
}

func TestUnpackOfBytesThatEndTooEarly(t *testing.T) {
	for _, l := range blocksThatMayBe() {
		b := pack(t, l)
		for end := range b {
			refused(t, b[:end], api.ErrShort)
		}
	}
	refused(t, nil, api.ErrShort)
	refused(t, []byte{}, api.ErrShort)
	// What can't be a block at the end ends too early ahead of that.
	refused(t, blockOf(9), api.ErrShort)
	refused(t, blockOf(400), api.ErrShort)
	refused(t, blockOf(2, coded(0, "b"), numbers(0, 1)), api.ErrShort)
	refused(t, blockOf(3, coded(0, "b"), coded(0, "a")), api.ErrShort)
	refused(t, blockOf(2, coded(0, "")), api.ErrShort)
	refused(t, blockOf(2, coded(0, "ab"), coded(1, "b")[:1]), api.ErrShort)
	refused(t, blockOf(9, slices.Repeat(coded(0, "a"), 8)), api.ErrShort)
}

func TestUnpackOfNumbersAbove400(t *testing.T) {
	x := strings.Repeat("x", 400)
	for _, u := range []uint64{401, 402, 511, 512, 1 << 16, 1 << 31, 1<<32 + 1, 1 << 63, math.MaxUint64 - 1, math.MaxUint64} {
		for _, behind := range [][]byte{nil, long(3, 'x'), long(5000, 'x'), {255}, {128, 0}} {
			tail := append(numbers(u), behind...)
			refused(t, tail, api.ErrForm)
			refused(t, blockOf(1, tail), api.ErrForm)
			refused(t, blockOf(1, numbers(0), tail), api.ErrForm)
			refused(t, blockOf(2, coded(0, x), tail), api.ErrForm)
			refused(t, blockOf(2, coded(0, x), numbers(0), tail), api.ErrForm)
			refused(t, blockOf(2, coded(0, x), numbers(400), tail), api.ErrForm)
			refused(t, blockOf(3, coded(0, x), coded(400, x), tail), api.ErrForm)
		}
	}
	// 400 itself isn't above: what is wrong is met later.
	refused(t, blockOf(400, numbers(0)), api.ErrShort)
	refused(t, blockOf(1, numbers(0, 400), long(399, 'x')), api.ErrShort)
	refused(t, blockOf(2, coded(0, x), numbers(400)), api.ErrShort)
	refused(t, blockOf(2, coded(0, x), numbers(400, 400), long(399, 'x')), api.ErrShort)
	refused(t, blockOf(3, coded(0, x), coded(400, x), numbers(400)), api.ErrShort)
	refused(t, blockOf(3, coded(0, x), coded(400, x), coded(400, x)), api.ErrForm)
	if l, e := Unpack(blockOf(1, coded(0, x))); e != api.OK || !same(l, itemsOf(x)) {
		t.Error("Unpack of an item of 400 bytes:", e)
	}
}

func TestUnpackOfACommonAboveTheItemAhead(t *testing.T) {
	for _, behind := range [][]byte{nil, {1, 'a'}, {1}, {255}, long(900, 1)} {
		for _, c := range []struct {
			ahead string
			alike uint64
		}{{"", 1}, {"", 400}, {"ab", 3}, {"ab", 4}, {"ab", 400}, {strings.Repeat("x", 399), 400}, {strings.Repeat("x", 128), 129}} {
			refused(t, blockOf(2, coded(0, c.ahead), numbers(c.alike), behind), api.ErrForm)
		}
		for _, alike := range []uint64{1, 2, 128, 400} { // there is none ahead of the first one
			refused(t, blockOf(1, numbers(alike), behind), api.ErrForm)
		}
	}
	// As long as the item ahead: what is wrong is met later.
	refused(t, blockOf(2, coded(0, "ab"), numbers(2)), api.ErrShort)
	refused(t, blockOf(2, coded(0, "ab"), coded(2, "")), api.ErrForm)
	refused(t, blockOf(3, coded(0, "ab"), coded(1, "c"), numbers(2)), api.ErrShort)
	refused(t, blockOf(3, coded(0, "abc"), coded(1, "c"), numbers(3)), api.ErrForm) // the item ahead is the last one, not the longest
	if l, e := Unpack(blockOf(2, coded(0, "ab"), coded(2, "c"))); e != api.OK || !same(l, itemsOf("ab", "abc")) {
		t.Errorf("Unpack = %q, %v", l, e)
	}
}

func TestUnpackOfWhatIsNoBlock(t *testing.T) {
	for _, b := range [][]byte{
		blockOf(0), blockOf(0, numbers(0)), blockOf(0, coded(0, "a")), blockOf(0, []byte{255}),
		blockOf(1, coded(0, "")), blockOf(2, coded(0, ""), coded(0, "a")), blockOf(2, coded(0, "a"), coded(0, "")), blockOf(2, coded(0, "a"), coded(1, "")),
		blockOf(2, coded(0, "b"), coded(0, "a")), blockOf(2, coded(0, "ab"), coded(1, "a")), blockOf(2, coded(0, "ab"), coded(1, "")), blockOf(3, coded(0, "a"), coded(0, "c"), coded(0, "b")),
		blockOf(2, coded(0, strings.Repeat("x", 400)), coded(400, "x")), blockOf(2, coded(0, "x"), coded(1, strings.Repeat("x", 400))),
		blockOf(9, slices.Concat(coded(0, "1"), coded(0, "2"), coded(0, "3"), coded(0, "4"), coded(0, "5"), coded(0, "6"), coded(0, "7"), coded(0, "8"), coded(0, "9"))),
		blockOf(400, slices.Repeat(coded(0, "a"), 400)), blockOf(400, coded(0, "a"), slices.Repeat(coded(1, "a"), 399)),
	} {
		refused(t, b, api.ErrForm)
	}
}

func TestUnpackOfABlockThatPackMakesOtherBytesOf(t *testing.T) {
	for _, b := range [][]byte{
		blockOf(2, coded(0, "ab"), coded(0, "abc")), blockOf(2, coded(0, "ab"), coded(1, "bc")), blockOf(2, coded(0, "a"), coded(0, "aa")), blockOf(3, coded(0, "ab"), coded(2, "c"), coded(2, "ca")),
		blockOf(2, coded(0, strings.Repeat("x", 300)), coded(299, "xy")),
		blockOf(2, coded(0, strings.Repeat("x", 128)), coded(127, "xx")), // as many bytes as Pack makes
	} {
		if l, e := wantUnpack(b); e != api.ErrForm || l != nil {
			t.Fatalf("%q is none for this", b)
		}
		refused(t, b, api.ErrForm)
	}
}

func TestUnpackOfBytesThatAreLeftBehind(t *testing.T) {
	for _, l := range blocksThatMayBe() {
		b := pack(t, l)
		for _, behind := range [][]byte{{0}, {1}, {255}, {128, 0}, long(400, 'x'), b} {
			refused(t, slices.Concat(b, behind), api.ErrForm)
		}
		for b[0] > 1 { // of a lower count, the last items are what is left behind
			b[0]--
			refused(t, b, api.ErrForm)
		}
	}
}

func TestUnpackOfNumbersThatMayNotBe(t *testing.T) {
	for _, c := range []struct {
		number string
		want   api.Errno
	}{
		{"\x80", api.ErrShort}, {"\x80\x80", api.ErrShort}, {"\xff\xff\xff\xff\xff\xff\xff\xff\xff", api.ErrShort},
		{"\x80\x00", api.ErrForm}, {"\x81\x00", api.ErrForm}, {"\x81\x80\x00", api.ErrForm}, {"\xff\xff\xff\xff\xff\xff\xff\xff\xff\xff", api.ErrForm},
		{"\xff\xff\xff\xff\xff\xff\xff\xff\xff\x02", api.ErrForm}, {"\x81\x80\x80\x80\x80\x80\x80\x80\x80\x00", api.ErrForm}, {"\x80\x80\x80\x80\x80\x80\x80\x80\x80\x80\x01", api.ErrForm},
	} {
		n := []byte(c.number)
		refused(t, n, c.want)
		refused(t, blockOf(1, n), c.want)
		refused(t, blockOf(1, numbers(0), n), c.want)
		refused(t, blockOf(2, coded(0, "ab"), n), c.want)
		refused(t, blockOf(2, coded(0, "ab"), numbers(1), n), c.want)
		if c.want == api.ErrForm { // at once, whatever comes
			refused(t, append(n, 1), c.want)
			refused(t, blockOf(2, coded(0, "ab"), numbers(1), n, coded(0, "b")), c.want)
		}
	}
}

func TestUnpackTellsTheErrorThatIsMetFirst(t *testing.T) {
	for _, c := range []struct {
		b    []byte
		want api.Errno
	}{
		{blockOf(2, coded(0, "b"), numbers(2)), api.ErrForm},                                 // a Common that is too great, and then the end
		{blockOf(2, coded(0, "b"), numbers(1)), api.ErrShort},                                // the end, ahead of items that don't rise
		{blockOf(2, coded(0, "b"), coded(1, ""), numbers(401)), api.ErrForm},                 // items that don't rise, and what is left
		{blockOf(1, coded(1, "a")), api.ErrForm},                                             // a Common of the first item
		{blockOf(1, numbers(1)), api.ErrForm},                                                // at once
		{blockOf(401), api.ErrForm},                                                          // a count, at once
		{blockOf(1, numbers(0, 401)), api.ErrForm},                                           // a length, at once
		{blockOf(1, numbers(0, 5), []byte("ab")), api.ErrShort},                              // the end within an item
		{blockOf(1, numbers(0, 400)), api.ErrShort},                                          // the end ahead of an item
		{blockOf(9, coded(0, "a"), numbers(2)), api.ErrForm},                                 // a Common, ahead of the count and of the end
		{blockOf(9, coded(0, "a")), api.ErrShort},                                            // the end, ahead of the count
		{blockOf(3, coded(0, "b"), coded(0, "a"), []byte{128}), api.ErrShort},                // the end within a number, ahead of items that don't rise
		{blockOf(3, coded(0, "b"), coded(0, "a"), []byte{128, 0}), api.ErrForm},              // a number that is too long
		{append([]byte{129, 0}, coded(0, "a")...), api.ErrForm},                              // a count that is too long
		{blockOf(2, coded(0, "ab"), coded(0, "abc"), []byte{128}), api.ErrForm},              // other bytes, and some behind
		{blockOf(2, coded(0, strings.Repeat("x", 400)), coded(400, "x"), nil), api.ErrForm},  // too long an item, at the end
		{blockOf(3, coded(0, strings.Repeat("x", 400)), coded(400, "x"), nil), api.ErrShort}, // the end, ahead of that
		{blockOf(3, coded(0, strings.Repeat("x", 400)), coded(400, "x"), []byte{0}), api.ErrShort},
	} {
		refused(t, c.b, c.want)
	}
}

// turned changes packed bytes a little: a byte, one more, one less.
func turned(r *rand.Rand, b []byte) []byte {
	b = slices.Clone(b)
	for range r.Intn(3) {
		at := r.Intn(len(b) + 1)
		few := byte(r.Intn(5))
		switch {
		case at == len(b) || r.Intn(4) == 0:
			b = slices.Insert(b, at, few)
		case r.Intn(4) == 0:
			b = slices.Delete(b, at, at+1)
		case r.Intn(3) == 0:
			b[at] ^= 1 << r.Intn(8)
		case r.Intn(2) == 0:
			b[at] += few - 2
		default:
			b[at] = few
		}
	}
	return b
}

func TestAnyBytesAreUnpackedAsTheWordsSay(t *testing.T) {
	r := rand.New(rand.NewSource(92))
	met := map[api.Errno]int{}
	for range 60000 {
		var b []byte
		if l := anyRising(r, 8); len(l) > 0 && r.Intn(4) > 0 {
			b = turned(r, pack(t, l))
		} else {
			for range r.Intn(12) {
				b = append(b, []byte{0, 0, 1, 1, 2, 2, 3, 'a', 'b', 128, 255}[r.Intn(11)])
			}
		}
		want, wantE := wantUnpack(b)
		met[wantE]++
		if l, e := Unpack(b); e != wantE || !same(l, want) {
			t.Fatalf("Unpack(%q) = %q, %v, want %q, %v", b, l, e, want, wantE)
		}
	}
	for _, e := range []api.Errno{api.OK, api.ErrShort, api.ErrForm} {
		if met[e] < 1000 {
			t.Error("hardly asked for:", e, met)
		}
	}
}

// P9.3

func TestSeekOfSomeItems(t *testing.T) {
	l := itemsOf("a", "ab", "b", "c")
	for s, want := range map[string]int{"": 0, "\x00": 0, "A": 0, "a": 0, "a\x00": 1, "aa": 1, "ab": 1, "ab\x00": 2, "abc": 2, "ac": 2, "b": 2, "b\x00": 3, "bz": 3, "c": 3, "c\x00": 4, "d": 4, "\xff": 4} {
		if got := Seek(l, []byte(s)); got != want {
			t.Errorf("Seek of %q = %d, want %d", s, got, want)
		}
	}
	if got := Seek(l, nil); got != 0 {
		t.Errorf("Seek of no item = %d", got)
	}
	for _, s := range []string{"", "a", "\xff"} {
		if Seek(nil, []byte(s)) != 0 || Seek([][]byte{}, []byte(s)) != 0 {
			t.Errorf("Seek of %q among none", s)
		}
	}
	for s, want := range map[string]int{"": 0, "a": 0, "b": 0, "b\x00": 1, "c": 1} {
		if got := Seek(itemsOf("b"), []byte(s)); got != want {
			t.Errorf("Seek of %q among one = %d, want %d", s, got, want)
		}
	}
}

func TestSeekOfEachItemAndBetweenAnyTwo(t *testing.T) {
	for _, n := range []int{0, 1, 2, 3, 4, 7, 8, 9, 15, 16, 17, 100, 257, 2000} {
		var l [][]byte
		for i := range n {
			l = append(l, []byte{byte(i / 256), byte(i), 7})
		}
		for i, item := range l {
			ahead, behind := slices.Clone(item), append(slices.Clone(item), 0)
			ahead[2]--
			if at, between, next := Seek(l, item), Seek(l, ahead), Seek(l, behind); at != i || between != i || next != i+1 {
				t.Errorf("of %d: Seek of the one at %d = %d, just ahead of it %d, just behind it %d", n, i, at, between, next)
			}
		}
		if ahead, behind := Seek(l, []byte{0}), Seek(l, []byte{255}); ahead != 0 || behind != n {
			t.Errorf("of %d: Seek ahead of all = %d, behind all %d", n, ahead, behind)
		}
	}
}

func TestSeekOfAnyItems(t *testing.T) {
	r := rand.New(rand.NewSource(93))
	for range 20000 {
		l, item := anyRising(r, 40), anyItem(r, 0, 402)
		if got, want := Seek(l, item), wantSeek(l, item); got != want {
			t.Fatalf("Seek(%q, %q) = %d, want %d", l, item, got, want)
		}
		r.Shuffle(len(l), func(i, j int) { l[i], l[j] = l[j], l[i] })
		if got := Seek(l, item); got < 0 || got > len(l) || got != Seek(l, item) {
			t.Fatalf("Seek(%q, %q) = %d", l, item, got)
		}
	}
}

func TestSplitOfSoManyItems(t *testing.T) {
	for n, want := range map[int][]int{0: nil, 1: {1}, 7: {7}, 8: {8}, 9: {8, 1}, 15: {8, 7}, 16: {8, 8}, 17: {8, 8, 1}, 24: {8, 8, 8}, 100: {8, 8, 8, 8, 8, 8, 8, 8, 8, 8, 8, 8, 4}} {
		var l [][]byte
		for i := range n {
			l = append(l, []byte{byte(i)})
		}
		blocks := Split(l)
		var counts []int
		for _, block := range blocks {
			counts = append(counts, len(block))
		}
		if !slices.Equal(counts, want) {
			t.Errorf("Split of %d: rows of %v, want %v", n, counts, want)
		}
		if all := slices.Concat(blocks...); !same(all, l) {
			t.Errorf("Split of %d: %v", n, all)
		}
	}
	if len(Split(nil)) != 0 || len(Split([][]byte{})) != 0 {
		t.Error("Split of none")
	}
}

func TestSplitTakesAnyItems(t *testing.T) {
	for _, l := range [][][]byte{
		itemsOf("b", "a"), itemsOf("a", "a"), itemsOf(""), {nil, nil, {}}, make([][]byte, 9), {long(401, 'x')}, {long(100000, 'x'), nil},
		slices.Repeat(itemsOf("c", "a", "", "b"), 5),
	} {
		blocks := Split(l)
		if len(blocks) != (len(l)+7)/8 || !same(slices.Concat(blocks...), l) {
			t.Errorf("Split(%.60q) = %.60q", l, blocks)
		}
	}
	if got := len(Split(make([][]byte, 2001))); got != 251 {
		t.Errorf("Split of 2001: %d rows", got)
	}
}

// P9.4

func TestWhatIsPackedIsUnpacked(t *testing.T) {
	for _, l := range blocksThatMayBe() {
		b := pack(t, l)
		if want, _ := wantPack(l); !bytes.Equal(b, want) {
			t.Errorf("Pack(%.60q) = %.60q, want %.60q", l, b, want)
		}
		if back, e := Unpack(b); e != api.OK || !same(back, l) {
			t.Errorf("Unpack of the Pack of %.60q = %.60q, %v", l, back, e)
		}
	}
	r := rand.New(rand.NewSource(94))
	for range 20000 {
		l := anyItems(r)
		b, e := Pack(l)
		want, wantE := wantPack(l)
		if e != wantE || !bytes.Equal(b, want) {
			t.Fatalf("Pack(%q) = %q, %v, want %q, %v", l, b, e, want, wantE)
		}
		if e != api.OK {
			continue
		}
		if back, e := Unpack(b); e != api.OK || !same(back, l) {
			t.Fatalf("Unpack of the Pack of %q = %q, %v", l, back, e)
		}
	}
}

func TestBlocksHaveAllItemsInOrder(t *testing.T) {
	r := rand.New(rand.NewSource(95))
	for range 2000 {
		l := anyRising(r, 60)
		var all [][]byte
		for _, block := range Split(l) {
			if e := Check(block); e != api.OK {
				t.Fatalf("Check(%q) = %v", block, e)
			}
			back, e := Unpack(pack(t, block))
			if e != api.OK {
				t.Fatalf("Unpack of the Pack of %q = %v", block, e)
			}
			all = append(all, back...)
		}
		if !same(all, l) {
			t.Fatalf("the blocks of %q have %q", l, all)
		}
	}
}

// What holds for all calls.

// scribble writes over bytes and over the room behind their end.
func scribble(b []byte) {
	b = b[:cap(b)]
	for i := range b {
		b[i] ^= 255
	}
}

// guarded lays items one behind another into one array, with room behind each, and tells whether all is as it was.
func guarded(l [][]byte) ([][]byte, func() bool) {
	var whole []byte
	for _, item := range l {
		whole = append(append(whole, item...), "room"...)
	}
	row := make([][]byte, 0, len(l)+3)
	at := 0
	for _, item := range l {
		row = append(row, whole[at:at+len(item)])
		at += len(item) + 4
	}
	full := append(row, []byte("x"), []byte("y"), []byte("z"))
	before := slices.Clone(whole)
	places := slices.Clone(full)
	return row, func() bool {
		for i, item := range full {
			if len(item) != len(places[i]) || len(item) > 0 && &item[0] != &places[i][0] {
				return false
			}
		}
		return bytes.Equal(whole, before) && same(full[len(l):], itemsOf("x", "y", "z"))
	}
}

func TestWhatIsHandedInIsNotChanged(t *testing.T) {
	r := rand.New(rand.NewSource(96))
	rows := slices.Concat(blocksThatMayBe(), [][][]byte{nil, itemsOf("b", "a"), itemsOf("", "a"), make([][]byte, 9), {long(401, 'x')}, slices.Repeat(itemsOf("b", "a"), 10)})
	for range 500 {
		rows = append(rows, anyItems(r))
	}
	for _, l := range rows {
		row, asItWas := guarded(l)
		Check(row)
		Pack(row)
		Split(row)
		for _, item := range row {
			Seek(row, item)
			Common(row[0], item)
		}
		if !asItWas() {
			t.Fatalf("%.60q were changed", l)
		}
	}
	for range 5000 {
		b := append(slices.Clone(turned(r, pack(t, append(anyRising(r, 7), long(9, 255))))), "room"...)
		before := slices.Clone(b)
		Unpack(b[:len(b)-4])
		if !bytes.Equal(b, before) {
			t.Fatalf("%q was changed", before)
		}
	}
}

func TestWhatIsPackedIsNewMemory(t *testing.T) {
	for _, l := range blocksThatMayBe() {
		row, asItWas := guarded(l)
		first, second := pack(t, row), pack(t, row)
		want, _ := wantPack(l)
		scribble(first)
		if !asItWas() || !bytes.Equal(second, want) {
			t.Fatalf("Pack of %.60q shares memory", l)
		}
		for _, item := range row {
			scribble(item[:len(item):len(item)])
		}
		if !bytes.Equal(second, want) {
			t.Fatalf("Pack of %.60q keeps what was handed in", l)
		}
	}
}

func TestWhatIsUnpackedIsNewMemory(t *testing.T) {
	for _, l := range blocksThatMayBe() {
		b, _ := wantPack(l)
		before := slices.Clone(b)
		first, _ := Unpack(b)
		second, _ := Unpack(b)
		for i := range first {
			scribble(first[i])
			first[i] = slices.Clone(l[i])
			if !same(first, l) {
				t.Fatalf("items of %.60q share memory", l)
			}
		}
		clear(first[:cap(first)])
		if !bytes.Equal(b, before) || !same(second, l) {
			t.Fatalf("Unpack of %.60q shares memory", before)
		}
		scribble(b)
		if !same(second, l) {
			t.Fatalf("Unpack keeps %.60q", before)
		}
	}
}

func TestBlocksThatAreSplitDontReachBehindTheirEnds(t *testing.T) {
	for _, n := range []int{1, 7, 8, 9, 16, 17} {
		var l [][]byte
		for i := range n {
			l = append(l, []byte{byte(i)})
		}
		row, asItWas := guarded(l)
		blocks := Split(row)
		for i, block := range blocks {
			blocks[i] = append(block, []byte("new"))
		}
		if !asItWas() {
			t.Errorf("of %d: who appends to a block changes what was handed in", n)
		}
		for i, block := range blocks {
			if want := l[8*i : min(8*i+8, n)]; !same(block[:len(block)-1], want) || string(block[len(block)-1]) != "new" {
				t.Errorf("of %d: who appends to a block changes another one: %q", n, block)
			}
		}
		clear(blocks[:cap(blocks)])
		if again := Split(row); !same(slices.Concat(again...), l) {
			t.Errorf("of %d: the rows that were told are kept", n)
		}
	}
}

func TestNothingIsKeptFromCallToCall(t *testing.T) {
	r := rand.New(rand.NewSource(97))
	row := itemsOf("aaaa", "bbbb", "cccc", "dddd")
	for range 3000 {
		for i := range row {
			copy(row[i], anyItem(r, 4, 8))
		}
		b, e := Pack(row)
		if want, wantE := wantPack(row); e != wantE || !bytes.Equal(b, want) {
			t.Fatalf("Pack(%q) = %q, %v", row, b, e)
		}
		slices.SortFunc(row, bytes.Compare)
		if got := Seek(row, row[2]); got != wantSeek(row, row[2]) {
			t.Fatalf("Seek(%q, %q) = %d", row, row[2], got)
		}
	}
}
