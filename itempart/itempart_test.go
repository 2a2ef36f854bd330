package itempart

import (
	"bytes"
	"encoding/binary"
	"fmt"
	"hash/crc32"
	"math"
	"math/rand"
	"slices"
	"strings"
	"testing"

	"esker/api"
)

// itemsOf is items out of texts.
func itemsOf(texts ...string) [][]byte {
	var l [][]byte
	for _, s := range texts {
		l = append(l, []byte(s))
	}
	return l
}

// same tells whether two rows have the same items.
func same(a, b [][]byte) bool { return slices.EqualFunc(a, b, bytes.Equal) }

// long is an item of n bytes, all of them c.
func long(n int, c byte) []byte { return bytes.Repeat([]byte{c}, n) }

// item is the one at a place among many that rise: n bytes, that tell the place.
func item(i, n int) []byte {
	return append([]byte{byte(i >> 8), byte(i)}, long(n-2, 'x')...)
}

// many is so many items that rise, each of n bytes.
func many(count, n int) [][]byte {
	var l [][]byte
	for i := range count {
		l = append(l, item(i, n))
	}
	return l
}

// counts are the counts at which blocks end, those beside them, and the greatest one.
var counts = []int{1, 2, 7, 8, 9, 15, 16, 17, 24, 25, 100, 1999, 2000}

// number is the bytes of a number.
func number(u int) []byte { return binary.AppendUvarint(nil, uint64(u)) }

// place is a number's four bytes, the highest first.
func place(n int) []byte { return binary.BigEndian.AppendUint32(nil, uint32(n)) }

// framed is a frame of a kind and a body, whatever these are.
func framed(kind byte, body []byte) []byte {
	b := slices.Concat([]byte{kind}, number(len(body)), body)
	return binary.BigEndian.AppendUint32(b, crc32.ChecksumIEEE(b))
}

// packed is the bytes of a block, whether it may be one or not.
func packed(l [][]byte) []byte {
	b := number(len(l))
	var ahead []byte
	for _, one := range l {
		n := 0
		for n < min(len(ahead), len(one)) && ahead[n] == one[n] {
			n++
		}
		b = slices.Concat(b, number(n), number(len(one)-n), one[n:])
		ahead = one
	}
	return b
}

// rowsOf8 is items in rows of 8.
func rowsOf8(l [][]byte) [][][]byte { return slices.Collect(slices.Chunk(l, 8)) }

// entry is what an index says of one block.
func entry(at, size int, first []byte) []byte {
	return slices.Concat(number(at), number(size), first)
}

// laid is a file of rows that are its blocks, as they are, and the places where these begin.
func laid(rows [][][]byte) (file []byte, at []int) {
	for _, row := range rows {
		at = append(at, len(file))
		file = append(file, framed(1, packed(row))...)
	}
	return file, at
}

// indexOf is the body of an index of these rows at these places.
func indexOf(rows [][][]byte, at []int) []byte {
	b := number(len(rows))
	for i, row := range rows {
		b = append(b, entry(at[i], len(row[0]), row[0])...)
	}
	return b
}

// fileOf is a file of rows that are its blocks, as they are.
func fileOf(rows [][][]byte) []byte {
	file, at := laid(rows)
	return withIndex(file, indexOf(rows, at))
}

// withIndex is blocks' frames, an index's, and where that begins.
func withIndex(blocks, index []byte) []byte {
	return slices.Concat(blocks, framed(2, index), place(len(blocks)))
}

// wantBuild is a file of items, by the document's words.
func wantBuild(l [][]byte) ([]byte, api.Errno) {
	if len(l) > 2000 {
		return nil, api.ErrLimit
	}
	for i, one := range l {
		if len(one) < 1 || len(one) > 400 || i > 0 && !(string(l[i-1]) < string(one)) {
			return nil, api.ErrArg
		}
	}
	if len(l) == 0 {
		return nil, api.ErrArg
	}
	rows := rowsOf8(l)
	file, at := laid(rows)
	index := indexOf(rows, at)
	if len(index) > 65535 {
		return nil, api.ErrLimit
	}
	return withIndex(file, index), api.OK
}

// wantFrom goes through all items.
func wantFrom(l [][]byte, from []byte, most int) [][]byte {
	var out [][]byte
	for _, one := range l {
		if string(one) >= string(from) && len(out) < most {
			out = append(out, one)
		}
	}
	return out
}

// wantPrefix goes through all items.
func wantPrefix(l [][]byte, first []byte) [][]byte {
	var out [][]byte
	for _, one := range l {
		if strings.HasPrefix(string(one), string(first)) {
			out = append(out, one)
		}
	}
	return out
}

// wantHas goes through all items.
func wantHas(l [][]byte, one []byte) bool {
	return slices.ContainsFunc(l, func(b []byte) bool { return string(b) == string(one) })
}

// build is Build of items that may be.
func build(t *testing.T, l [][]byte) []byte {
	t.Helper()
	b, e := Build(l)
	if e != api.OK {
		t.Fatalf("Build of %d items: %v", len(l), e)
	}
	return b
}

// open is the part of items that may be.
func open(t *testing.T, l [][]byte) *Part {
	t.Helper()
	p, e := Open(build(t, l))
	if e != api.OK || p == nil {
		t.Fatalf("Open of Build of %d items: %v", len(l), e)
	}
	return p
}

// notBuilt asks Build for items that it must refuse.
func notBuilt(t *testing.T, what string, l [][]byte, want api.Errno) {
	t.Helper()
	if b, e := Build(l); e != want || len(b) != 0 {
		t.Errorf("Build of %s: %d bytes, %v, want %v", what, len(b), e, want)
	}
	if _, e := wantBuild(l); e != want {
		t.Errorf("%s: by the document's words %v, not %v", what, e, want)
	}
}

// noPart asks Open for bytes that it must refuse.
func noPart(t *testing.T, what string, b []byte) {
	t.Helper()
	if p, e := Open(b); e != api.ErrPart || p != nil {
		t.Errorf("Open of %s: %v, %v", what, p, e)
	}
}

// asked holds a part against the items that it is to have.
func asked(t *testing.T, p *Part, l [][]byte) {
	t.Helper()
	if p.Len() != len(l) || p.Blocks() != (len(l)+7)/8 {
		t.Fatalf("of %d items: Len %d, Blocks %d", len(l), p.Len(), p.Blocks())
	}
	if !bytes.Equal(p.First(), l[0]) || !bytes.Equal(p.Last(), l[len(l)-1]) {
		t.Fatalf("of %d items: First %.20q, Last %.20q", len(l), p.First(), p.Last())
	}
	if got := p.From(nil, len(l)+1); !same(got, l) {
		t.Fatalf("of %d items: From tells %d, or others", len(l), len(got))
	}
	if got := p.Prefix(nil); !same(got, l) {
		t.Fatalf("of %d items: Prefix tells %d, or others", len(l), len(got))
	}
}

// P10.1: Build

func TestBuildOfTheExample(t *testing.T) {
	block := framed(1, []byte("\x02\x00\x01a\x00\x01b"))
	index := framed(2, []byte("\x01\x00\x01a"))
	want := slices.Concat(block, index, []byte{0, 0, 0, byte(len(block))})
	if got := build(t, itemsOf("a", "b")); !bytes.Equal(got, want) || len(block) != 13 {
		t.Errorf("%q, want %q", got, want)
	}
}

func TestBuildOfTwoBlocks(t *testing.T) {
	l := itemsOf("a", "ab", "abc", "b", "c", "d", "e", "f", "fa")
	first := framed(1, []byte("\x08\x00\x01a\x01\x01b\x02\x01c\x00\x01b\x00\x01c\x00\x01d\x00\x01e\x00\x01f"))
	second := framed(1, []byte("\x01\x00\x02fa"))
	index := framed(2, slices.Concat([]byte("\x02\x00\x01a"), []byte{byte(len(first))}, []byte("\x02fa")))
	want := slices.Concat(first, second, index, []byte{0, 0, 0, byte(len(first) + len(second))})
	if got := build(t, l); !bytes.Equal(got, want) {
		t.Errorf("%q, want %q", got, want)
	}
}

func TestBuildOfSoManyItems(t *testing.T) {
	for _, size := range []int{2, 30} {
		for _, n := range counts {
			l := many(n, size)
			want, _ := wantBuild(l)
			if got := build(t, l); !bytes.Equal(got, want) {
				t.Errorf("Build of %d items of %d bytes: %d bytes, want %d, or others", n, size, len(got), len(want))
			}
		}
	}
	notBuilt(t, "nil", nil, api.ErrArg)
	notBuilt(t, "no items", [][]byte{}, api.ErrArg)
	notBuilt(t, "2001 items", many(2001, 2), api.ErrLimit)
	notBuilt(t, "4000 items", many(4000, 2), api.ErrLimit)
}

func TestBuildTellsWhereTheIndexBeginsByFourBytes(t *testing.T) {
	for _, c := range []struct{ n, size, bytes int }{{1, 2, 1}, {8, 100, 2}, {600, 400, 3}} {
		l := many(c.n, c.size)
		for i := range l { // unlike each other from their first bytes on: they have little from the one ahead
			copy(l[i][:2], []byte{byte(i), byte(i >> 8)})
		}
		slices.SortFunc(l, bytes.Compare)
		b := build(t, l)
		blocks, _ := laid(rowsOf8(l))
		at := int(binary.BigEndian.Uint32(b[len(b)-4:]))
		if at != len(blocks) || at>>(8*c.bytes) != 0 || at>>(8*c.bytes-8) == 0 {
			t.Fatalf("of %d items of %d bytes: the index begins at %d, want %d", c.n, c.size, at, len(blocks))
		}
		if !bytes.Equal(b[:at], blocks) || b[at] != 2 {
			t.Errorf("of %d items of %d bytes: other blocks, or no index behind them", c.n, c.size)
		}
	}
}

func TestBuildOfItemsOfSuchLengths(t *testing.T) {
	for _, n := range []int{0, 1, 2, 127, 128, 399, 400, 401, 402, 70000} {
		for _, count := range []int{1, 2, 8, 9, 17} {
			for at := range count {
				l := many(count, 3)
				switch {
				case n < 3:
					l[at] = l[at][:n]
				default:
					l[at] = append(l[at], long(n-3, 'x')...)
				}
				want, e := wantBuild(l)
				if e == api.OK != (n > 1 && n <= 400 || n == 1 && at == 0) { // one byte alone is what the first one begins with
					t.Fatal(n, count, at, e)
				}
				if got, gotE := Build(l); gotE != e || !bytes.Equal(got, want) {
					t.Errorf("an item of %d bytes at %d of %d: %d bytes, %v, want %v", n, at, count, len(got), gotE, e)
				}
			}
		}
	}
	for _, s := range []string{"a", "\x00", "\xff", strings.Repeat("\x00", 400), strings.Repeat("\xff", 400)} {
		asked(t, open(t, itemsOf(s)), itemsOf(s))
	}
	notBuilt(t, "an item without bytes", itemsOf(""), api.ErrArg)
	notBuilt(t, "an item that is nil", [][]byte{nil}, api.ErrArg)
	notBuilt(t, "an item without bytes, ahead", itemsOf("", "a"), api.ErrArg)
	notBuilt(t, "an item of 401 bytes", [][]byte{long(401, 'x')}, api.ErrArg)
	notBuilt(t, "an item of 401 bytes, behind all", append(many(16, 4), long(401, 255)), api.ErrArg)
}

func TestBuildOfItemsThatDontRise(t *testing.T) {
	for _, count := range []int{2, 8, 9, 16, 17, 25, 2000} {
		for _, at := range []int{1, 2, 7, 8, 9, 15, 16, 17, 24, count - 1} {
			if at >= count {
				continue
			}
			alike, fall, twice := many(count, 4), many(count, 4), many(count, 4)
			alike[at] = alike[at-1]
			fall[at], fall[at-1] = fall[at-1], fall[at]
			twice[at] = slices.Clone(twice[0])
			where := fmt.Sprintf("%d, from %d on", count, at)
			notBuilt(t, "items that are alike: "+where, alike, api.ErrArg)
			notBuilt(t, "items that fall: "+where, fall, api.ErrArg)
			notBuilt(t, "the first item once more: "+where, twice, api.ErrArg)
			rise := many(count, 4)
			rise[at] = append(slices.Clone(rise[at-1]), 0) // no item is between these
			if want, e := wantBuild(rise); e != api.OK || !bytes.Equal(build(t, rise), want) {
				t.Errorf("items that rise by a byte: %s: %v", where, e)
			}
		}
	}
	notBuilt(t, "what an item begins with, behind it", itemsOf("ab", "a"), api.ErrArg)
	notBuilt(t, "the same, at a block's beginning", append(many(7, 2), []byte("\x01\x02"), []byte("\x01")), api.ErrArg)
	asked(t, open(t, itemsOf("\x7f", "\x80", "\xff")), itemsOf("\x7f", "\x80", "\xff"))
	notBuilt(t, "bytes with a sign", itemsOf("\x80", "\x7f"), api.ErrArg)
}

// withIndexOf is items whose index has so many bytes: what is missing is added to the last blocks' first items, so that no place takes more bytes.
func withIndexOf(t *testing.T, size int) [][]byte {
	t.Helper()
	l := many(8*(size/395), 390)
	missing := size - len(bodyOf(l))
	for at := len(l) - 8; missing > 0; at -= 8 {
		n := min(missing, 10)
		l[at] = append(l[at], long(n, 'x')...)
		missing -= n
	}
	if got := len(bodyOf(l)); got != size {
		t.Fatalf("an index of %d bytes, not %d", got, size)
	}
	return l
}

// bodyOf is the body of the index of items.
func bodyOf(l [][]byte) []byte {
	rows := rowsOf8(l)
	_, at := laid(rows)
	return indexOf(rows, at)
}

func TestBuildOfTheLongestIndex(t *testing.T) {
	for _, size := range []int{65000, 65534, 65535} {
		l := withIndexOf(t, size)
		want, e := wantBuild(l)
		if e != api.OK {
			t.Fatal(size, e)
		}
		if got := build(t, l); !bytes.Equal(got, want) {
			t.Errorf("an index of %d bytes: others", size)
		}
		asked(t, open(t, l), l)
	}
	for _, size := range []int{65536, 65537, 66000, 80000} {
		notBuilt(t, fmt.Sprint("an index of ", size), withIndexOf(t, size), api.ErrLimit)
	}
	notBuilt(t, "2000 items of 400 bytes", many(2000, 400), api.ErrLimit)
}

func TestBuildTellsTheErrorThatIsNamedFirst(t *testing.T) {
	falling := many(2001, 2)
	slices.Reverse(falling)
	notBuilt(t, "2001 items that fall", falling, api.ErrLimit)
	notBuilt(t, "2000 items that fall", falling[:2000], api.ErrArg)
	notBuilt(t, "2001 items without bytes", make([][]byte, 2001), api.ErrLimit)
	notBuilt(t, "2000 items without bytes", make([][]byte, 2000), api.ErrArg)
	notBuilt(t, "2001 items that are too long", many(2001, 401), api.ErrLimit)
	notBuilt(t, "2000 items that are too long", many(2000, 401), api.ErrArg)
	l := withIndexOf(t, 66000)
	l[len(l)-1] = l[len(l)-2]
	notBuilt(t, "too long an index, of items the last of which are alike", l, api.ErrArg)
	l = withIndexOf(t, 66000)
	l[len(l)-1] = append(l[len(l)-1], long(400, 'x')...)
	notBuilt(t, "too long an index, of items the last of which is too long", l, api.ErrArg)
	l = withIndexOf(t, 66000)
	l[0] = nil
	notBuilt(t, "too long an index, of items the first of which has no bytes", l, api.ErrArg)
}

// P10.1: Open

func TestOpenOfWhatWasBuilt(t *testing.T) {
	for _, size := range []int{2, 60} {
		for n := 1; n <= 40; n++ {
			asked(t, open(t, many(n, size)), many(n, size))
		}
		for _, n := range counts {
			asked(t, open(t, many(n, size)), many(n, size))
		}
	}
	asked(t, open(t, many(1000, 400)), many(1000, 400))
}

func TestOpenOfTheLongestBlocks(t *testing.T) {
	r := rand.New(rand.NewSource(101))
	var l [][]byte
	for i := range 160 {
		one := make([]byte, 400)
		r.Read(one)
		one[0] = byte(i)
		l = append(l, one)
	}
	b := build(t, l)
	if len(b) < 160*400 {
		t.Fatal(len(b))
	}
	if want, _ := wantBuild(l); !bytes.Equal(b, want) {
		t.Error("others")
	}
	asked(t, open(t, l), l)
	for i := range l { // alike as far as a number of two bytes tells it
		l[i] = append(long(397, 'x'), byte(i>>8), byte(i), 7)
	}
	asked(t, open(t, l), l)
}

// files are some that may be: of one block, of whole ones, of a short last one.
func files(t *testing.T) [][]byte {
	var l [][]byte
	for _, n := range []int{1, 2, 7, 8, 9, 16, 17, 20} {
		l = append(l, build(t, many(n, 3)))
	}
	return append(l, build(t, itemsOf("a", "b")), build(t, [][]byte{long(400, 'x')}), build(t, many(9, 150)))
}

func TestOpenOfFewBytes(t *testing.T) {
	noPart(t, "nil", nil)
	noPart(t, "no bytes", []byte{})
	for two := range 1 << 16 {
		noPart(t, "two bytes", []byte{byte(two >> 8), byte(two)})
	}
	for n := range 40 {
		noPart(t, "noughts", make([]byte, n))
		noPart(t, "bytes of 255", long(n, 255))
	}
	noPart(t, "many noughts", make([]byte, 1<<20))
	noPart(t, "where the index begins alone", place(0))
	noPart(t, "an index alone", withIndex(nil, []byte{0}))
	noPart(t, "a block alone", framed(1, packed(itemsOf("a"))))
}

func TestOpenOfFilesThatAreCutShort(t *testing.T) {
	for _, b := range files(t) {
		for n := range b {
			noPart(t, "a file that is cut short", b[:n])
			noPart(t, "a file whose beginning is cut off", b[n+1:])
			if n > 0 {
				noPart(t, "a file that a byte is cut out of", slices.Delete(slices.Clone(b), n, n+1))
			}
		}
	}
	b := build(t, many(2000, 20))
	for n := 0; n < len(b); n += 1 + len(b)/50 {
		noPart(t, "a great file that is cut short", b[:n])
	}
	noPart(t, "a great file without its last byte", b[:len(b)-1])
}

func TestOpenOfFilesWithMoreBehind(t *testing.T) {
	for _, b := range files(t) {
		for _, behind := range [][]byte{{0}, {1}, {255}, make([]byte, 4), b, b[len(b)-4:], framed(1, packed(itemsOf("z"))), framed(2, []byte{0})} {
			noPart(t, "a file with more behind", slices.Concat(b, behind))
			noPart(t, "a file with more ahead", slices.Concat(behind, b))
		}
		part, whole := b, append(slices.Clone(b), "room"...)
		if p, e := Open(whole[:len(part)]); e != api.OK || p == nil {
			t.Error("a file with room behind its end:", e)
		}
	}
}

func TestOpenOfFilesWithABitTurned(t *testing.T) {
	for _, b := range files(t) {
		for bit := range 8 * len(b) {
			turned := slices.Clone(b)
			turned[bit/8] ^= 1 << (bit % 8)
			noPart(t, fmt.Sprintf("a file of %d bytes with the bit %d turned", len(b), bit), turned)
		}
	}
	b := build(t, many(2000, 20))
	r := rand.New(rand.NewSource(102))
	for range 100 {
		bit := r.Intn(8 * len(b))
		b[bit/8] ^= 1 << (bit % 8)
		noPart(t, fmt.Sprintf("a great file with the bit %d turned", bit), b)
		b[bit/8] ^= 1 << (bit % 8)
	}
	asked(t, open(t, many(2000, 20)), many(2000, 20))
}

func TestOpenOfFramesOfOtherKinds(t *testing.T) {
	rows := rowsOf8(many(17, 3))
	for _, wrong := range []byte{0, 1, 2, 3, 4, 129, 130, 255} {
		for at := range rows {
			var blocks []byte
			var places []int
			for i, row := range rows {
				kind := byte(1)
				if i == at {
					kind = wrong
				}
				places = append(places, len(blocks))
				blocks = append(blocks, framed(kind, packed(row))...)
			}
			b := withIndex(blocks, indexOf(rows, places))
			if wrong == 1 {
				if p, e := Open(b); e != api.OK || p.Len() != 17 {
					t.Error(e)
				}
				continue
			}
			noPart(t, fmt.Sprint("a block of kind ", wrong), b)
		}
		if wrong == 2 {
			continue
		}
		blocks, at := laid(rows)
		noPart(t, fmt.Sprint("an index of kind ", wrong), slices.Concat(blocks, framed(wrong, indexOf(rows, at)), place(len(blocks))))
	}
}

func TestOpenOfOtherFramesBesideThose(t *testing.T) {
	rows := rowsOf8(many(17, 3))
	blocks, at := laid(rows)
	index := framed(2, indexOf(rows, at))
	noPart(t, "two indexes", slices.Concat(blocks, index, index, place(len(blocks))))
	noPart(t, "two indexes, the second one told", slices.Concat(blocks, index, index, place(len(blocks)+len(index))))
	noPart(t, "a third kind behind the index", slices.Concat(blocks, index, framed(3, nil), place(len(blocks))))
	noPart(t, "a third kind ahead of the index", withIndex(slices.Concat(blocks, framed(3, nil)), indexOf(rows, at)))
	noPart(t, "a byte ahead of the index", withIndex(slices.Concat(blocks, []byte{0}), indexOf(rows, at)))
	noPart(t, "no index", slices.Concat(blocks, place(len(blocks))))
	noPart(t, "the index ahead", slices.Concat(index, blocks, place(0)))
	noPart(t, "no place", slices.Concat(blocks, index))
	noPart(t, "the place twice", slices.Concat(blocks, index, place(len(blocks)), place(len(blocks))))
	if p, e := Open(withIndex(blocks, indexOf(rows, at))); e != api.OK || p.Len() != 17 {
		t.Error(e)
	}
}

func TestOpenOfBlocksThatArentAsSplitTells(t *testing.T) {
	l := many(24, 3)
	if p, e := Open(fileOf(rowsOf8(l))); e != api.OK || p.Len() != 24 {
		t.Fatal(e)
	}
	for what, rows := range map[string][][][]byte{
		"too short a block ahead":        {l[:7], l[7:15]},
		"too short a block between":      {l[:8], l[8:9], l[9:17]},
		"two that are short":             {l[:7], l[7:8]},
		"too short a one, and one left":  {l[:4], l[4:8]},
		"a block for each":               {l[:1], l[1:2], l[2:3]},
		"too long a block":               {l[:9]},
		"too long a block ahead":         {l[:9], l[9:17]},
		"too long a block behind":        {l[:8], l[8:17]},
		"blocks in another order":        {l[8:16], l[:8]},
		"the last block ahead":           {l[16:24], l[:8], l[8:16]},
		"a block twice":                  {l[:8], l[:8]},
		"one item in two blocks":         {l[:8], l[7:15]},
		"a block that falls":             {{l[1], l[0]}},
		"a block with two alike":         {{l[0], l[0]}},
		"a second block that falls":      {l[:8], {l[9], l[8]}},
		"an item that is empty":          {{nil}},
		"an item that is empty, ahead":   {{nil, l[0]}},
		"an item that is too long":       {{long(401, 'x')}},
		"an item that is far too long":   {{long(60000, 'x')}},
		"one that is too long, behind":   {l[:8], {long(401, 'x')}},
		"items that are below the ahead": {l[8:16], l[3:5]},
	} {
		noPart(t, what, fileOf(rows))
	}
}

func TestOpenOfBlocksThatAreEmpty(t *testing.T) {
	l := many(24, 3)
	full, none := framed(1, packed(l[:8])), framed(1, packed(nil))
	second := framed(1, packed(l[8:16]))
	one := entry(0, 3, l[0])
	noPart(t, "an empty block alone", withIndex(none, []byte{1, 0, 0}))
	noPart(t, "an empty block alone, that isn't told", withIndex(none, []byte{0}))
	noPart(t, "no blocks", withIndex(nil, []byte{0}))
	noPart(t, "no blocks, and no index", framed(2, nil))
	noPart(t, "an empty block behind", withIndex(slices.Concat(full, none), slices.Concat([]byte{2}, one, entry(len(full), 0, nil))))
	noPart(t, "an empty block behind, that isn't told", withIndex(slices.Concat(full, none), slices.Concat([]byte{1}, one)))
	noPart(t, "an empty block ahead, that isn't told", withIndex(slices.Concat(none, full), slices.Concat([]byte{1}, entry(len(none), 3, l[0]))))
	noPart(t, "an empty block between, that isn't told", withIndex(slices.Concat(full, none, second), slices.Concat([]byte{2}, one, entry(len(full)+len(none), 3, l[8]))))
	noPart(t, "a block without bytes", withIndex(framed(1, nil), []byte{0}))
	noPart(t, "a block without bytes behind", withIndex(slices.Concat(full, framed(1, nil)), slices.Concat([]byte{1}, one)))
}

func TestOpenOfBlocksWhoseBytesPackDoesntMake(t *testing.T) {
	l := itemsOf("ab", "abc", "b")
	right := []byte("\x03\x00\x02ab\x02\x01c\x00\x01b")
	index := slices.Concat([]byte{1}, entry(0, 2, l[0]))
	if p, e := Open(withIndex(framed(1, right), index)); e != api.OK || !same(p.Prefix(nil), l) {
		t.Fatal(e)
	}
	for what, block := range map[string]string{
		"less in common than there is":    "\x03\x00\x02ab\x01\x02bc\x00\x01b",
		"more behind the items":           string(right) + "\x00",
		"a greater count":                 "\x04" + string(right[1:]),
		"a lower count":                   "\x02" + string(right[1:]),
		"a count that is too long":        "\x83\x00" + string(right[1:]),
		"a common that is too long":       "\x03\x80\x00\x02ab\x02\x01c\x00\x01b",
		"a length that is too long":       "\x03\x00\x82\x00ab\x02\x01c\x00\x01b",
		"a common above the item ahead":   "\x03\x00\x02ab\x03\x01c\x00\x01b",
		"items that fall":                 "\x03\x00\x02ab\x00\x01b\x00\x02ac",
		"the end within an item":          "\x03\x00\x02ab\x02\x01c\x00\x02b",
		"an item that has no bytes":       "\x01\x00\x00",
		"an item that has no bytes ahead": "\x02\x00\x00\x00\x01b",
	} {
		noPart(t, what, withIndex(framed(1, []byte(block)), index))
	}
}

func TestOpenOfAnIndexThatSaysOtherwise(t *testing.T) {
	l := many(17, 3)
	rows := rowsOf8(l)
	blocks, at := laid(rows)
	one, two, three := entry(at[0], 3, l[0]), entry(at[1], 3, l[8]), entry(at[2], 3, l[16])
	count := []byte{3}
	if p, e := Open(withIndex(blocks, slices.Concat(count, one, two, three))); e != api.OK || !same(p.Prefix(nil), l) {
		t.Fatal(e)
	}
	for what, index := range map[string][]byte{
		"nothing":                    nil,
		"no blocks":                  {0},
		"one block of three":         slices.Concat([]byte{1}, one),
		"two blocks of three":        slices.Concat([]byte{2}, one, two),
		"four blocks of three":       slices.Concat([]byte{4}, one, two, three),
		"four blocks, the last anew": slices.Concat([]byte{4}, one, two, three, three),
		"a lower count, and more":    slices.Concat([]byte{2}, one, two, three),
		"many blocks":                slices.Concat(number(1<<30), one, two, three),
		"more behind":                slices.Concat(count, one, two, three, []byte{0}),
		"one more behind":            slices.Concat(count, one, two, three, three),
		"one is missing":             slices.Concat(count, one, two),
		"the last byte is missing":   slices.Concat(count, one, two, three[:len(three)-1]),
		"another order":              slices.Concat(count, two, one, three),
		"the last two turned round":  slices.Concat(count, one, three, two),
		"one twice":                  slices.Concat(count, one, one, three),
		"a first place above 0":      slices.Concat(count, entry(1, 3, l[0]), two, three),
		"a place that is too low":    slices.Concat(count, one, entry(at[1]-1, 3, l[8]), three),
		"a place that is too great":  slices.Concat(count, one, entry(at[1]+1, 3, l[8]), three),
		"another block's place":      slices.Concat(count, one, entry(at[2], 3, l[8]), three),
		"the index's place":          slices.Concat(count, one, two, entry(len(blocks), 3, l[16])),
		"a place beyond all":         slices.Concat(count, one, two, entry(1<<31, 3, l[16])),
		"a place far beyond all":     slices.Concat(count, one, binary.AppendUvarint(nil, math.MaxUint64), two[1:], three),
		"another item of the block":  slices.Concat(count, one, entry(at[1], 3, l[9]), three),
		"the last item of the block": slices.Concat(count, one, entry(at[1], 3, l[15]), three),
		"another block's item":       slices.Concat(count, one, entry(at[1], 3, l[16]), three),
		"an item that is none":       slices.Concat(count, one, entry(at[1], 3, []byte("\x00\x08a")), three),
		"an item that is shorter":    slices.Concat(count, one, entry(at[1], 2, l[8][:2]), three),
		"an item that is longer":     slices.Concat(count, one, entry(at[1], 4, append(slices.Clone(l[8]), 0)), three),
		"an item without bytes":      slices.Concat(count, one, entry(at[1], 0, nil), three),
		"a length that is too low":   slices.Concat(count, one, entry(at[1], 2, l[8]), three),
		"a length that is too great": slices.Concat(count, one, entry(at[1], 4, l[8]), three),
		"a length beyond all":        slices.Concat(count, one, entry(at[1], 1<<30, l[8]), three),
		"a length far beyond all":    slices.Concat(count, one, number(at[1]), binary.AppendUvarint(nil, math.MaxUint64), l[8], three),
		"a count that is too long":   slices.Concat([]byte{131, 0}, one, two, three),
		"a place that is too long":   slices.Concat(count, []byte{128, 0}, one[1:], two, three),
		"a length that is too long":  slices.Concat(count, one[:1], []byte{131, 0}, l[0], two, three),
		"a last length too long":     slices.Concat(count, one, two, three[:len(three)-4], []byte{131, 0}, l[16]),
	} {
		noPart(t, "an index that says: "+what, withIndex(blocks, index))
	}
}

func TestOpenOfAnIndexOfMoreBlocksThanThereAre(t *testing.T) {
	l := many(16, 3)
	rows := rowsOf8(l)
	blocks, at := laid(rows)
	noPart(t, "two blocks that one is told of", withIndex(blocks, indexOf(rows[:1], at)))
	first := framed(1, packed(rows[0]))
	noPart(t, "one block that two are told of", withIndex(first, indexOf(rows, at)))
	file := fileOf(rowsOf8(many(2001, 2)))
	noPart(t, "2001 items", file)
	noPart(t, "8000 items", fileOf(rowsOf8(many(8000, 2))))
	long := many(2000, 400)
	noPart(t, "an index that is too long for a frame", fileOf(rowsOf8(long)))
}

func TestOpenOfLengthsThatAreWrittenTooLong(t *testing.T) {
	rows := rowsOf8(itemsOf("a", "b"))
	body, index := packed(rows[0]), indexOf(rows, []int{0})
	stretched := func(kind byte, body []byte) []byte {
		b := slices.Concat([]byte{kind, byte(len(body)) | 128, 0}, body)
		return binary.BigEndian.AppendUint32(b, crc32.ChecksumIEEE(b))
	}
	noPart(t, "a block's length that is too long", withIndex(stretched(1, body), index))
	block := framed(1, body)
	noPart(t, "an index's length that is too long", slices.Concat(block, stretched(2, index), place(len(block))))
	if p, e := Open(slices.Concat(block, framed(2, index), place(len(block)))); e != api.OK || p.Len() != 2 {
		t.Error(e)
	}
}

func TestOpenOfWhereTheIndexBeginsElsewhere(t *testing.T) {
	for _, b := range files(t) {
		head := b[:len(b)-4]
		right := int(binary.BigEndian.Uint32(b[len(b)-4:]))
		for at := range len(b) + 10 {
			if at != right {
				noPart(t, fmt.Sprint("an index that begins at ", at), append(slices.Clone(head), place(at)...))
			}
		}
		for _, at := range []uint32{1 << 16, 1 << 24, 1<<31 - 1, 1 << 31, 1<<31 + uint32(right), math.MaxUint32, -uint32(right), 1<<32 - 4} {
			noPart(t, fmt.Sprint("an index that begins at ", at), binary.BigEndian.AppendUint32(slices.Clone(head), at))
		}
		noPart(t, "the lowest byte first", binary.LittleEndian.AppendUint32(slices.Clone(head), uint32(right)))
		for n := range 4 {
			noPart(t, "fewer bytes of where the index begins", slices.Concat(head, place(right)[4-n:]))
		}
		noPart(t, "eight bytes of where the index begins", slices.Concat(head, make([]byte, 4), place(right)))
	}
}

// P10.2

func TestPartsOfOneAndOfSeveralBlocks(t *testing.T) {
	for _, c := range []struct{ n, blocks int }{{1, 1}, {7, 1}, {8, 1}, {9, 2}, {16, 2}, {17, 3}, {2000, 250}} {
		p := open(t, many(c.n, 5))
		if p.Len() != c.n || p.Blocks() != c.blocks {
			t.Errorf("of %d: Len %d, Blocks %d, want %d", c.n, p.Len(), p.Blocks(), c.blocks)
		}
		if !bytes.Equal(p.First(), item(0, 5)) || !bytes.Equal(p.Last(), item(c.n-1, 5)) {
			t.Errorf("of %d: First %q, Last %q", c.n, p.First(), p.Last())
		}
	}
}

// asks are what a part of these items is asked: each one, what is just ahead of it and just behind it, and some that are far.
func asks(l [][]byte) [][]byte {
	out := [][]byte{nil, {}, {0}, {255}, long(400, 255), long(401, 255), long(1000, 255), long(1000, 0), []byte("a"), l[len(l)-1]}
	for _, one := range l {
		ahead := slices.Clone(one)
		ahead[len(ahead)-1]--
		out = append(out, one, append(slices.Clone(one), 0), append(slices.Clone(one), 255), one[:len(one)-1], ahead)
	}
	return out
}

func TestHasOfEachItemAndBetweenAnyTwo(t *testing.T) {
	for _, n := range []int{1, 2, 7, 8, 9, 16, 17, 24, 33, 2000} {
		l := many(n, 3)
		p := open(t, l)
		for _, one := range l {
			if !p.Has(one) {
				t.Errorf("of %d: %q isn't there", n, one)
			}
		}
		for _, one := range asks(l) {
			if !wantHas(l, one) && p.Has(one) {
				t.Errorf("of %d: %q is there", n, one)
			}
		}
	}
}

func TestHasAtTheEndsOfBlocks(t *testing.T) {
	l := itemsOf("b", "bb", "c", "d", "e", "f", "g", "h", "j", "k", "l", "m", "n", "o", "p", "q", "s")
	p := open(t, l)
	for s, want := range map[string]bool{
		"": false, "a": false, "b": true, "b\x00": false, "ba": false, "bb": true, "bc": false, "c": true, "h": true, "h\x00": false, "i": false,
		"i\xff": false, "j": true, "j\x00": false, "p": true, "q": true, "qq": false, "r": false, "s": true, "s\x00": false, "t": false, "\xff": false,
	} {
		if got := p.Has([]byte(s)); got != want {
			t.Errorf("Has(%q) = %v", s, got)
		}
	}
}

func TestFromOfSomeItems(t *testing.T) {
	l := itemsOf("b", "bb", "c", "d", "e", "f", "g", "h", "j", "k", "l", "m", "n", "o", "p", "q", "s")
	p := open(t, l)
	for _, c := range []struct {
		from string
		most int
		want string
	}{
		{"", 1, "b"}, {"", 3, "b bb c"}, {"a", 2, "b bb"}, {"b", 2, "b bb"}, {"b\x00", 2, "bb c"}, {"bc", 1, "c"}, {"g", 4, "g h j k"}, {"h", 1, "h"}, {"h", 2, "h j"},
		{"h\x00", 2, "j k"}, {"i", 1, "j"}, {"j", 9, "j k l m n o p q s"}, {"j", 8, "j k l m n o p q"}, {"q", 5, "q s"}, {"r", 2, "s"}, {"s", 1, "s"}, {"s\x00", 1, ""}, {"t", 7, ""},
		{"", 0, ""}, {"b", 0, ""}, {"b", -1, ""}, {"", math.MinInt, ""}, {"s", math.MinInt, ""}, {"q", math.MaxInt, "q s"},
	} {
		if got := string(bytes.Join(p.From([]byte(c.from), c.most), []byte(" "))); got != c.want {
			t.Errorf("From(%q, %d) = %q, want %q", c.from, c.most, got, c.want)
		}
	}
}

func TestFromOfEachItemAndBetweenAnyTwo(t *testing.T) {
	for _, n := range []int{1, 2, 7, 8, 9, 16, 17, 33} {
		l := many(n, 3)
		p := open(t, l)
		for _, from := range asks(l) {
			left := len(wantFrom(l, from, n))
			for _, most := range []int{math.MinInt, -1, 0, 1, 2, 7, 8, 9, left - 1, left, left + 1, 2000, math.MaxInt} {
				if got, want := p.From(from, most), wantFrom(l, from, most); !same(got, want) {
					t.Fatalf("of %d: From(%q, %d) = %q, want %q", n, from, most, got, want)
				}
			}
		}
	}
	l := many(2000, 3)
	p := open(t, l)
	for i, one := range l {
		if got := p.From(one, math.MaxInt); !same(got, l[i:]) {
			t.Fatalf("of 2000: From the one at %d: %d", i, len(got))
		}
		if got := p.From(append(one, 0), 9); !same(got, l[i+1:min(i+10, 2000)]) {
			t.Fatalf("of 2000: From just behind the one at %d: %q", i, got)
		}
	}
}

func TestPrefixOfSomeItems(t *testing.T) {
	all := "a ab abc abcd abd ac b ba bb bba bbb bbc bbd bbe bbf bbg bbh bbi bc c \xfe \xfe\xff \xff \xff\xfe \xff\xff \xff\xff\xff"
	l := itemsOf(strings.Fields(all)...)
	p := open(t, l)
	if p.Blocks() != 4 {
		t.Fatal(p.Blocks())
	}
	for first, want := range map[string]string{
		"": all, "a": "a ab abc abcd abd ac", "ab": "ab abc abcd abd", "abc": "abc abcd", "abcd": "abcd", "abcde": "", "abe": "", "ac": "ac", "ad": "",
		"b": "b ba bb bba bbb bbc bbd bbe bbf bbg bbh bbi bc", "ba": "ba", "bb": "bb bba bbb bbc bbd bbe bbf bbg bbh bbi", "bbi": "bbi", "bbj": "", "bbf\x00": "", "bc": "bc", "bd": "",
		"c": "c", "c\x00": "", "d": "", "\x00": "", "\xfd": "", "\xfe": "\xfe \xfe\xff", "\xfe\xff": "\xfe\xff",
		"\xff": "\xff \xff\xfe \xff\xff \xff\xff\xff", "\xff\xff": "\xff\xff \xff\xff\xff", "\xff\xff\xff": "\xff\xff\xff", "\xff\xff\xff\xff": "", strings.Repeat("\xff", 401): "", strings.Repeat("a", 1000): "",
	} {
		if got := string(bytes.Join(p.Prefix([]byte(first)), []byte(" "))); got != want {
			t.Errorf("Prefix(%q) = %q, want %q", first, got, want)
		}
	}
}

func TestPrefixOverBlocks(t *testing.T) {
	var l [][]byte
	for i := range 2000 { // 20 hundreds, each of one first byte; blocks end within and between them
		l = append(l, []byte{byte('a' + i/100), byte(i % 100), byte(i)})
	}
	p := open(t, l)
	for i := range 20 {
		first := []byte{byte('a' + i)}
		if got := p.Prefix(first); !same(got, l[100*i:100*i+100]) {
			t.Errorf("Prefix(%q) has %d", first, len(got))
		}
	}
	for i, one := range l {
		if got := p.Prefix(one); !same(got, l[i:i+1]) {
			t.Errorf("Prefix of the one at %d = %q", i, got)
		}
		if got := p.Prefix(append(slices.Clone(one), 0)); len(got) != 0 {
			t.Errorf("Prefix of more than the one at %d = %q", i, got)
		}
	}
	if got := p.Prefix([]byte("u")); len(got) != 0 {
		t.Error(got)
	}
	if got := p.Prefix(nil); !same(got, l) {
		t.Error(len(got))
	}
	long := [][]byte{long(399, 255), long(400, 255)}
	for n, want := range map[int]int{0: 2, 1: 2, 399: 2, 400: 1, 401: 0} {
		if got := open(t, long).Prefix(bytes.Repeat([]byte{255}, n)); len(got) != want {
			t.Errorf("Prefix of %d bytes of 255: %d", n, len(got))
		}
	}
}

// anyItem is up to most bytes of few kinds, so that items begin alike.
func anyItem(r *rand.Rand, least, most int) []byte {
	one := make([]byte, least+r.Intn(most-least+1))
	for i := range one {
		one[i] = []byte{0, 1, 'a', 'a', 'b', 127, 128, 255}[r.Intn(8)]
	}
	return one
}

// anyRising is up to most items that rise, one at least.
func anyRising(r *rand.Rand, most int) [][]byte {
	var l [][]byte
	length := []int{1, 2, 4, 6, 40, 400}[r.Intn(6)]
	for range 1 + r.Intn(most) {
		l = append(l, anyItem(r, 1, length))
	}
	slices.SortFunc(l, bytes.Compare)
	return slices.CompactFunc(l, bytes.Equal)
}

func TestAnyItemsAreAskedForAsTheWordsSay(t *testing.T) {
	r := rand.New(rand.NewSource(103))
	for range 400 {
		l := anyRising(r, 120)
		b := build(t, l)
		if want, _ := wantBuild(l); !bytes.Equal(b, want) {
			t.Fatalf("Build of %q is another one", l)
		}
		p := open(t, l)
		asked(t, p, l)
		for range 60 {
			one := anyItem(r, 0, 7)
			if r.Intn(3) == 0 {
				one = l[r.Intn(len(l))]
				one = one[:len(one)-r.Intn(2)]
			}
			most := r.Intn(len(l)+4) - 2
			if got := p.Has(one); got != wantHas(l, one) {
				t.Fatalf("of %q: Has(%q) = %v", l, one, got)
			}
			if got, want := p.From(one, most), wantFrom(l, one, most); !same(got, want) {
				t.Fatalf("of %q: From(%q, %d) = %q, want %q", l, one, most, got, want)
			}
			if got, want := p.Prefix(one), wantPrefix(l, one); !same(got, want) {
				t.Fatalf("of %q: Prefix(%q) = %q, want %q", l, one, got, want)
			}
		}
	}
}

// P10.3

func TestAPartThatIsNil(t *testing.T) {
	for what, p := range map[string]*Part{"nil": nil, "one that Open didn't make": new(Part)} {
		if p.Len() != 0 || p.Blocks() != 0 {
			t.Error(what, p.Len(), p.Blocks())
		}
		if len(p.First()) != 0 || len(p.Last()) != 0 {
			t.Error(what, p.First(), p.Last())
		}
		for _, one := range [][]byte{nil, {}, {0}, []byte("a"), long(400, 255), long(401, 255)} {
			if p.Has(one) || len(p.Prefix(one)) != 0 {
				t.Error(what, one)
			}
			for _, most := range []int{math.MinInt, -1, 0, 1, 2000, math.MaxInt} {
				if got := p.From(one, most); len(got) != 0 {
					t.Error(what, one, most, got)
				}
			}
		}
	}
}

func TestOfAnErrorThereIsNothingElse(t *testing.T) {
	for _, l := range [][][]byte{nil, itemsOf("b", "a"), many(2001, 2), many(2000, 400), many(2000, 401)} {
		if b, e := Build(l); e == api.OK || len(b) != 0 {
			t.Error(len(l), len(b), e)
		}
	}
	p, e := Open([]byte("none"))
	if e != api.ErrPart || p != nil || p.Len() != 0 {
		t.Error(p, e)
	}
}

// P10.4

func TestWhatIsBuiltIsOpenedAndAnyChangeIsTold(t *testing.T) {
	r := rand.New(rand.NewSource(104))
	for range 1500 {
		l := anyRising(r, 40)
		b := build(t, l)
		asked(t, open(t, l), l)
		changed := slices.Clone(b)
		for range 1 + r.Intn(3) {
			at := r.Intn(len(changed))
			switch r.Intn(4) {
			case 0:
				changed = slices.Insert(changed, at, byte(r.Intn(256)))
			case 1:
				changed = slices.Delete(changed, at, at+1)
			case 2:
				changed[at] ^= 1 << r.Intn(8)
			default:
				changed[at] = byte(r.Intn(4))
			}
			if len(changed) == 0 {
				break
			}
		}
		if p, e := Open(changed); bytes.Equal(changed, b) != (e == api.OK) || (p != nil) != (e == api.OK) {
			t.Fatalf("a file of %q that was changed: %v", l, e)
		}
	}
}

// Where the sums are right, only the words tell that it is no file.
func TestBodiesThatAreChangedWithTheirSumsAreToldToo(t *testing.T) {
	r := rand.New(rand.NewSource(105))
	met := map[api.Errno]int{}
	for range 4000 {
		l := anyRising(r, 20)
		rows := rowsOf8(l)
		at := r.Intn(len(rows) + 1)
		var file []byte
		var places []int
		for i, row := range rows {
			body := packed(row)
			if i == at {
				body[r.Intn(len(body))] ^= 1 << r.Intn(8)
			}
			places = append(places, len(file))
			file = append(file, framed(1, body)...)
		}
		index := indexOf(rows, places)
		if at == len(rows) {
			index[r.Intn(len(index))] ^= 1 << r.Intn(8)
		}
		b := withIndex(file, index)
		p, e := Open(b)
		met[e]++
		if e == api.OK { // another item, that may be: then it is Build of those
			if again, e := wantBuild(p.Prefix(nil)); e != api.OK || !bytes.Equal(again, b) {
				t.Fatalf("%q is no file of items", b)
			}
			continue
		}
		if e != api.ErrPart || p != nil {
			t.Fatal(p, e)
		}
	}
	if met[api.OK] < 100 || met[api.ErrPart] < 1000 {
		t.Error("hardly asked for:", met)
	}
}

// What holds for all calls.

// scribble writes over bytes and over the room behind their end.
func scribble(b []byte) {
	b = b[:cap(b)]
	for i := range b {
		b[i] ^= 255
	}
}

// guarded lays items one behind another into one array, with room behind each and behind the row.
func guarded(l [][]byte) (row [][]byte, whole []byte, asItWas func() bool) {
	for _, one := range l {
		whole = append(append(whole, one...), "room"...)
	}
	at := 0
	for _, one := range l {
		row = append(row, whole[at:at+len(one)])
		at += len(one) + 4
	}
	full := append(row, []byte("x"), []byte("y"))
	before, rowBefore := slices.Clone(whole), slices.Clone(full)
	return full[:len(l)], whole, func() bool {
		for i, one := range full {
			if len(one) != len(rowBefore[i]) || len(one) > 0 && &one[0] != &rowBefore[i][0] {
				return false
			}
		}
		return bytes.Equal(whole, before)
	}
}

func TestWhatIsHandedInIsNeitherChangedNorKept(t *testing.T) {
	for _, n := range []int{1, 8, 9, 17, 100} {
		l := many(n, 5)
		row, whole, asItWas := guarded(l)
		first, second := build(t, row), build(t, row)
		scribble(first)
		want, _ := wantBuild(l)
		if !asItWas() || !bytes.Equal(second, want) {
			t.Fatalf("of %d: what Build tells isn't new memory", n)
		}
		scribble(whole)
		if !bytes.Equal(second, want) {
			t.Fatalf("of %d: Build keeps what it was given", n)
		}

		file := append(slices.Clone(want), "room"...)
		before := slices.Clone(file)
		p, e := Open(file[:len(want)])
		if e != api.OK || !bytes.Equal(file, before) {
			t.Fatalf("of %d: Open changes what it is given, or %v", n, e)
		}
		scribble(file)
		asked(t, p, l)
	}
	for _, l := range [][][]byte{itemsOf("b", "a"), itemsOf("", "a"), many(2001, 3), many(1800, 400), {long(401, 1)}} {
		row, _, asItWas := guarded(l)
		if b, e := Build(row); e == api.OK || len(b) != 0 || !asItWas() {
			t.Fatal("items that Build refuses are changed:", len(l), e)
		}
	}
}

func TestWhatIsAskedForIsNeitherChangedNorKept(t *testing.T) {
	l := many(20, 3)
	p := open(t, l)
	for _, ask := range asks(l) {
		whole := append(slices.Clone(ask), "room"...)
		one := whole[:len(ask)]
		from, first, has := p.From(one, 5), p.Prefix(one), p.Has(one)
		if !bytes.Equal(whole, append(slices.Clone(ask), "room"...)) {
			t.Fatalf("%q is changed", ask)
		}
		scribble(whole)
		if !same(from, wantFrom(l, ask, 5)) || !same(first, wantPrefix(l, ask)) || has != wantHas(l, ask) {
			t.Fatalf("what is told of %q shares memory with it", ask)
		}
		asked(t, p, l)
	}
}

func TestWhatAPartTellsIsNewMemoryEachTime(t *testing.T) {
	for _, n := range []int{1, 8, 9, 17} {
		l := many(n, 5)
		p := open(t, l)
		for _, tell := range []func() [][]byte{
			func() [][]byte { return p.From(nil, 2000) },
			func() [][]byte { return p.Prefix(nil) },
			func() [][]byte { return p.Prefix([]byte{0}) },
		} {
			first, second := tell(), tell()
			for i := range first {
				scribble(first[i])
				first[i] = slices.Clone(l[i])
				if !same(first, l) {
					t.Fatalf("of %d: two items share memory", n)
				}
			}
			for i := range first {
				first[i] = append(first[i], "more"...)
			}
			clear(first[:cap(first)])
			if !same(second, l) {
				t.Fatalf("of %d: two answers share memory", n)
			}
			asked(t, p, l)
		}
		for _, end := range []func() []byte{p.First, p.Last} {
			want := slices.Clone(end())
			first, second := end(), end()
			scribble(first)
			if !bytes.Equal(second, want) || !bytes.Equal(end(), want) {
				t.Fatalf("of %d: First or Last shares memory", n)
			}
			asked(t, p, l)
		}
	}
}

func TestPartsAreForThemselves(t *testing.T) {
	r := rand.New(rand.NewSource(106))
	var parts []*Part
	var rows [][][]byte
	for range 30 {
		l := anyRising(r, 50)
		parts, rows = append(parts, open(t, l)), append(rows, l)
	}
	for i, p := range parts {
		asked(t, p, rows[i])
		asked(t, p, rows[i]) // to be asked changes nothing
	}
}
