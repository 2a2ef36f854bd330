package kmerge

import (
	"bytes"
	"cmp"
	"fmt"
	"math"
	"math/rand"
	"slices"
	"testing"
)

// least and most are the ends of all numbers.
const (
	least = math.MinInt
	most  = math.MaxInt
)

// itemsOf is items out of texts.
func itemsOf(texts ...string) [][]byte {
	var l [][]byte
	for _, s := range texts {
		l = append(l, []byte(s))
	}
	return l
}

// same tells whether two rows have the same items.
func same(a, b [][]byte) bool { return slices.EqualFunc(a, b, bytes.Equal) }

// wantItems tries one item after another: the next one is the least of those that are above what was told last.
func wantItems(l [][][]byte) [][]byte {
	var out [][]byte
	for {
		var next *string
		for _, row := range l {
			for _, item := range row {
				s := string(item)
				if (len(out) == 0 || s > string(out[len(out)-1])) && (next == nil || s < *next) {
					next = &s
				}
			}
		}
		if next == nil {
			return out
		}
		out = append(out, []byte(*next))
	}
}

// wantThose does so with numbers, of those that are asked for.
func wantThose(l [][]int, is func(int) bool) []int {
	var out []int
	for {
		next, there := 0, false
		for _, row := range l {
			for _, n := range row {
				if is(n) && (len(out) == 0 || n > out[len(out)-1]) && (!there || n < next) {
					next, there = n, true
				}
			}
		}
		if !there {
			return out
		}
		out = append(out, next)
	}
}

// wantInts asks for all numbers.
func wantInts(l [][]int) []int {
	return wantThose(l, func(int) bool { return true })
}

// wantMeet asks for those that each row has.
func wantMeet(l [][]int) []int {
	return wantThose(l, func(n int) bool {
		for _, row := range l {
			if !slices.Contains(row, n) {
				return false
			}
		}
		return true
	})
}

// wantLess asks for those of one row that the other one hasn't.
func wantLess(a, b []int) []int {
	return wantThose([][]int{a}, func(n int) bool { return !slices.Contains(b, n) })
}

// itemsAre holds Items of rows against what it must tell, and that against the document's words.
func itemsAre(t *testing.T, l [][][]byte, want [][]byte) {
	t.Helper()
	if got := Items(l...); !same(got, want) {
		t.Errorf("Items(%.200q) = %.200q, want %.200q", l, got, want)
	}
	if words := wantItems(l); !same(words, want) {
		t.Errorf("Items(%.200q): by the document's words %.200q, not %.200q", l, words, want)
	}
}

// intsAre does so with Ints.
func intsAre(t *testing.T, l [][]int, want []int) {
	t.Helper()
	if got := Ints(l...); !slices.Equal(got, want) {
		t.Errorf("Ints(%v) = %v, want %v", l, got, want)
	}
	if words := wantInts(l); !slices.Equal(words, want) {
		t.Errorf("Ints(%v): by the document's words %v, not %v", l, words, want)
	}
}

// meetIs does so with Meet.
func meetIs(t *testing.T, l [][]int, want []int) {
	t.Helper()
	if got := Meet(l...); !slices.Equal(got, want) {
		t.Errorf("Meet(%v) = %v, want %v", l, got, want)
	}
	if words := wantMeet(l); !slices.Equal(words, want) {
		t.Errorf("Meet(%v): by the document's words %v, not %v", l, words, want)
	}
}

// lessIs does so with Less.
func lessIs(t *testing.T, a, b, want []int) {
	t.Helper()
	if got := Less(a, b); !slices.Equal(got, want) {
		t.Errorf("Less(%v, %v) = %v, want %v", a, b, got, want)
	}
	if words := wantLess(a, b); !slices.Equal(words, want) {
		t.Errorf("Less(%v, %v): by the document's words %v, not %v", a, b, words, want)
	}
}

// orders tells all orders of the places 0 to n - 1.
func orders(n int) [][]int {
	if n == 0 {
		return [][]int{nil}
	}
	var out [][]int
	for _, shorter := range orders(n - 1) {
		for at := range n {
			out = append(out, slices.Insert(slices.Clone(shorter), at, n-1))
		}
	}
	return out
}

// picked is what stands at places.
func picked[T any](l []T, places []int) []T {
	out := make([]T, 0, len(places))
	for _, i := range places {
		out = append(out, l[i])
	}
	return out
}

// anyItem is an item of few bytes' kinds, so that items are alike, or begin alike; mostly short, empty now and then.
func anyItem(r *rand.Rand) []byte {
	n := r.Intn(4)
	if r.Intn(20) == 0 {
		n = r.Intn(40)
	}
	item := make([]byte, n)
	for i := range item {
		item[i] = []byte{0, 1, 'a', 127, 128, 255}[r.Intn(6)]
	}
	return item
}

// anyInt is a number out of few, so that numbers are alike, and the ends among them.
func anyInt(r *rand.Rand) int {
	switch r.Intn(12) {
	case 0:
		return []int{least, least + 1, most - 1, most}[r.Intn(4)]
	case 1:
		return int(r.Uint64())
	default:
		return r.Intn(16) - 5
	}
}

// anyRows are rows of what one tells, some of them empty, nil, as one ahead, or in order; those that rise are as frequent as those that don't.
func anyRows[T any](r *rand.Rand, one func(*rand.Rand) T, compare func(a, b T) int) [][]T {
	l := make([][]T, r.Intn(6))
	if r.Intn(30) == 0 {
		l = make([][]T, 20+r.Intn(30))
	}
	for i := range l {
		switch r.Intn(8) {
		case 0:
			continue
		case 1:
			if i > 0 {
				l[i] = slices.Clone(l[i-1])
				continue
			}
		}
		for range r.Intn(9) {
			l[i] = append(l[i], one(r))
		}
		if r.Intn(2) == 0 {
			slices.SortFunc(l[i], compare)
		}
	}
	return l
}

func anyItems(r *rand.Rand) [][][]byte { return anyRows(r, anyItem, bytes.Compare) }

func anyInts(r *rand.Rand) [][]int { return anyRows(r, anyInt, cmp.Compare[int]) }

// anyRow is one row of numbers.
func anyRow(r *rand.Rand) []int {
	return slices.Concat(anyInts(r)...)
}

// P11.1

func TestIntsOfTheExample(t *testing.T) {
	intsAre(t, [][]int{{1, 3}, {3, 2, 2}}, []int{1, 2, 3})
}

func TestIntsOfSomeRows(t *testing.T) {
	for _, c := range []struct {
		l    [][]int
		want []int
	}{
		{nil, nil},
		{[][]int{}, nil},
		{[][]int{nil}, nil},
		{[][]int{{}}, nil},
		{[][]int{nil, {}, nil}, nil},
		{[][]int{{7}}, []int{7}},
		{[][]int{{0}}, []int{0}},
		{[][]int{{-1, 0, 1}}, []int{-1, 0, 1}},
		{[][]int{{1, 0, -1}}, []int{-1, 0, 1}},
		{[][]int{{3, 1, 2, 3, 1}}, []int{1, 2, 3}},
		{[][]int{{4, 4, 4, 4}}, []int{4}},
		{[][]int{{0, 0}, {0}}, []int{0}},
		{[][]int{nil, {2, 1}, {}}, []int{1, 2}},
		{[][]int{{2, 1}, nil, {3}, {}}, []int{1, 2, 3}},
		{[][]int{{1, 3, 5}, {2, 4, 6}}, []int{1, 2, 3, 4, 5, 6}},
		{[][]int{{5, 3, 1}, {6, 4, 2}}, []int{1, 2, 3, 4, 5, 6}},
		{[][]int{{1, 3, 5}, {6, 4, 2}}, []int{1, 2, 3, 4, 5, 6}},
		{[][]int{{1, 2, 3}, {1, 2, 3}, {1, 2, 3}}, []int{1, 2, 3}},
		{[][]int{{1, 2, 3}, {3, 2, 1}}, []int{1, 2, 3}},
		{[][]int{{1, 2}, {2, 3}, {3, 4}}, []int{1, 2, 3, 4}},
		{[][]int{{1, 2}, {3, 4}}, []int{1, 2, 3, 4}},
		{[][]int{{3, 4}, {1, 2}}, []int{1, 2, 3, 4}},
		{[][]int{{1, 9}, {4, 5, 6}}, []int{1, 4, 5, 6, 9}},
		{[][]int{{2, 2, 1, 1}, {3, 3, 2, 2}}, []int{1, 2, 3}},
		{[][]int{{10, 9}, {100, 99}}, []int{9, 10, 99, 100}},
	} {
		intsAre(t, c.l, c.want)
	}
}

func TestIntsOfTheLeastAndTheGreatestNumbers(t *testing.T) {
	intsAre(t, [][]int{{most, least}}, []int{least, most})
	intsAre(t, [][]int{{most}, {least}}, []int{least, most})
	intsAre(t, [][]int{{least}, {most}, {0, -1}}, []int{least, -1, 0, most})
	intsAre(t, [][]int{{most, most - 1}, {least + 1, least}, {most, least}}, []int{least, least + 1, most - 1, most})
	intsAre(t, [][]int{{most, most}, {most}}, []int{most})
	intsAre(t, [][]int{{least, least}, {least}}, []int{least})
	// Numbers whose low halves are the other way round.
	intsAre(t, [][]int{{1 << 32, 1, -1 << 32, 2}}, []int{-1 << 32, 1, 2, 1 << 32})
}

func TestItemsOfSomeRows(t *testing.T) {
	for _, c := range []struct {
		l    [][][]byte
		want [][]byte
	}{
		{nil, nil},
		{[][][]byte{}, nil},
		{[][][]byte{nil}, nil},
		{[][][]byte{{}}, nil},
		{[][][]byte{nil, {}, nil}, nil},
		{[][][]byte{itemsOf("x")}, itemsOf("x")},
		{[][][]byte{itemsOf("a", "b", "c")}, itemsOf("a", "b", "c")},
		{[][][]byte{itemsOf("c", "b", "a")}, itemsOf("a", "b", "c")},
		{[][][]byte{itemsOf("c", "a", "b", "c", "a")}, itemsOf("a", "b", "c")},
		{[][][]byte{itemsOf("d", "d", "d", "d")}, itemsOf("d")},
		{[][][]byte{itemsOf("d", "d"), itemsOf("d")}, itemsOf("d")},
		{[][][]byte{nil, itemsOf("b", "a"), {}}, itemsOf("a", "b")},
		{[][][]byte{itemsOf("b", "a"), nil, itemsOf("c"), {}}, itemsOf("a", "b", "c")},
		{[][][]byte{itemsOf("a", "c", "e"), itemsOf("b", "d", "f")}, itemsOf("a", "b", "c", "d", "e", "f")},
		{[][][]byte{itemsOf("e", "c", "a"), itemsOf("f", "d", "b")}, itemsOf("a", "b", "c", "d", "e", "f")},
		{[][][]byte{itemsOf("a", "c", "e"), itemsOf("f", "d", "b")}, itemsOf("a", "b", "c", "d", "e", "f")},
		{[][][]byte{itemsOf("a", "b"), itemsOf("a", "b"), itemsOf("a", "b")}, itemsOf("a", "b")},
		{[][][]byte{itemsOf("a", "b"), itemsOf("b", "a")}, itemsOf("a", "b")},
		{[][][]byte{itemsOf("a", "b"), itemsOf("b", "c"), itemsOf("c", "d")}, itemsOf("a", "b", "c", "d")},
		{[][][]byte{itemsOf("a", "b"), itemsOf("c", "d")}, itemsOf("a", "b", "c", "d")},
		{[][][]byte{itemsOf("c", "d"), itemsOf("a", "b")}, itemsOf("a", "b", "c", "d")},
		{[][][]byte{itemsOf("a", "z"), itemsOf("f", "g", "h")}, itemsOf("a", "f", "g", "h", "z")},
		{[][][]byte{itemsOf("b", "b", "a", "a"), itemsOf("c", "c", "b", "b")}, itemsOf("a", "b", "c")},
	} {
		itemsAre(t, c.l, c.want)
	}
}

func TestItemsThatAreEmpty(t *testing.T) {
	itemsAre(t, [][][]byte{{nil}}, itemsOf(""))
	itemsAre(t, [][][]byte{{{}}}, itemsOf(""))
	itemsAre(t, [][][]byte{{nil, {}, nil}}, itemsOf(""))
	itemsAre(t, [][][]byte{{nil}, {{}}, {nil}}, itemsOf(""))
	itemsAre(t, [][][]byte{itemsOf("a", ""), itemsOf("\x00")}, itemsOf("", "\x00", "a"))
	itemsAre(t, [][][]byte{itemsOf("a"), itemsOf("", "b"), {nil}}, itemsOf("", "a", "b"))
}

func TestItemsOfWhichOneIsAnothersBeginning(t *testing.T) {
	itemsAre(t, [][][]byte{itemsOf("abc", "ab", "a")}, itemsOf("a", "ab", "abc"))
	itemsAre(t, [][][]byte{itemsOf("abc"), itemsOf("ab"), itemsOf("a", "abcd")}, itemsOf("a", "ab", "abc", "abcd"))
	itemsAre(t, [][][]byte{itemsOf("b", "ab"), itemsOf("a", "aa", "ba")}, itemsOf("a", "aa", "ab", "b", "ba"))
	itemsAre(t, [][][]byte{itemsOf("a\x00", "a"), itemsOf("a\x00\x00", "a\x01")}, itemsOf("a", "a\x00", "a\x00\x00", "a\x01"))
	// A long one that is ahead of a short one, and one that is behind it.
	itemsAre(t, [][][]byte{itemsOf("b"), itemsOf("aaaa", "cccc")}, itemsOf("aaaa", "b", "cccc"))
}

func TestItemsOfAllBytes(t *testing.T) {
	itemsAre(t, [][][]byte{itemsOf("\xff", "\x80", "\x7f", "\x00")}, itemsOf("\x00", "\x7f", "\x80", "\xff"))
	itemsAre(t, [][][]byte{itemsOf("\xff"), itemsOf("\x80"), itemsOf("\x00"), itemsOf("\x7f", "\x01")}, itemsOf("\x00", "\x01", "\x7f", "\x80", "\xff"))
	itemsAre(t, [][][]byte{itemsOf("a\xff", "a\x80"), itemsOf("a\x00", "a", "b")}, itemsOf("a", "a\x00", "a\x80", "a\xff", "b"))
	itemsAre(t, [][][]byte{itemsOf("\xff\xff", "\xff"), itemsOf("\xff\x00", "\xff\x80")}, itemsOf("\xff", "\xff\x00", "\xff\x80", "\xff\xff"))
	// Bytes that no text of runes has, and letters of both cases, are what they are.
	itemsAre(t, [][][]byte{itemsOf("\xc3\x28", "\xc3\xa9"), itemsOf("a", "A")}, itemsOf("A", "a", "\xc3\x28", "\xc3\xa9"))
	var rows [][][]byte
	var want [][]byte
	for c := range 256 {
		rows = append(rows, [][]byte{{byte(255 - c)}, {byte(c * 7)}})
		want = append(want, []byte{byte(c)})
	}
	itemsAre(t, rows, want)
}

func TestItemsAndIntsOfManyRows(t *testing.T) {
	for _, many := range []int{2, 3, 7, 8, 9, 100, 1000} {
		var texts [][][]byte
		var numbers [][]int
		for i := range many {
			texts = append(texts, itemsOf(fmt.Sprintf("%05d", many-i), fmt.Sprintf("%05d", i), "00003"))
			numbers = append(numbers, []int{many - i, i, 3})
		}
		var wantTexts [][]byte
		var want []int
		for i := range max(many, 3) + 1 {
			wantTexts = append(wantTexts, fmt.Appendf(nil, "%05d", i))
			want = append(want, i)
		}
		if got := Items(texts...); !same(got, wantTexts) {
			t.Errorf("Items of %d rows: %.200q", many, got)
		}
		if got := Ints(numbers...); !slices.Equal(got, want) {
			t.Errorf("Ints of %d rows: %v", many, got)
		}
	}
}

func TestOneLongRowAndManyShortOnes(t *testing.T) {
	const count = 20000
	rows := [][]int{nil}
	for i := range count {
		rows[0] = append(rows[0], i*7919%count)
		if i%10 == 0 {
			rows = append(rows, []int{-i, i})
		}
	}
	got := Ints(rows...)
	if len(got) != count+count/10-1 || !slices.IsSorted(got) || got[0] != -count+10 || got[len(got)-1] != count-1 {
		t.Errorf("%d numbers", len(got))
	}
	if got := Meet(rows[0], rows[0]); len(got) != count || !slices.IsSorted(got) {
		t.Errorf("%d numbers meet", len(got))
	}
	if got := Less(rows[0], rows[1]); len(got) != count-1 || got[0] != 1 {
		t.Errorf("%d numbers are left", len(got))
	}
}

func TestAnyRowsAreMergedAsTheWordsSay(t *testing.T) {
	r := rand.New(rand.NewSource(111))
	for range 20000 {
		l := anyItems(r)
		if got, want := Items(l...), wantItems(l); !same(got, want) {
			t.Fatalf("Items(%q) = %q, want %q", l, got, want)
		}
		n := anyInts(r)
		if got, want := Ints(n...), wantInts(n); !slices.Equal(got, want) {
			t.Fatalf("Ints(%v) = %v, want %v", n, got, want)
		}
	}
}

// P11.2

func TestMeetAndLessOfTheExamples(t *testing.T) {
	meetIs(t, [][]int{{1, 3}, {3, 2}}, []int{3})
	lessIs(t, []int{3, 1, 3}, []int{1}, []int{3})
}

func TestMeetOfSomeRows(t *testing.T) {
	for _, c := range []struct {
		l    [][]int
		want []int
	}{
		{nil, nil},
		{[][]int{}, nil},
		{[][]int{nil}, nil},
		{[][]int{{}}, nil},
		{[][]int{nil, {}}, nil},
		{[][]int{{5}}, []int{5}},
		{[][]int{{2, 1, 2}}, []int{1, 2}},
		{[][]int{{2, 2}}, []int{2}},
		{[][]int{{1, 2}, nil}, nil},
		{[][]int{{}, {1, 2}}, nil},
		{[][]int{{1, 2}, {1, 2}, nil}, nil},
		{[][]int{nil, {1, 2}, {1, 2}}, nil},
		{[][]int{{1, 2}, {}, {1, 2}}, nil},
		{[][]int{{1, 2, 3}, {1, 2, 3}}, []int{1, 2, 3}},
		{[][]int{{1, 2, 3}, {3, 2, 1}, {2, 1, 3}}, []int{1, 2, 3}},
		{[][]int{{0}, {0}, {0}}, []int{0}},
		{[][]int{{1, 3, 5}, {2, 4, 6}}, nil},
		{[][]int{{1, 2}, {3, 4}}, nil},
		{[][]int{{3, 4}, {1, 2}}, nil},
		{[][]int{{1, 2}, {2, 3}}, []int{2}},
		{[][]int{{1, 2}, {2, 3}, {3, 1}}, nil},
		{[][]int{{1, 2, 4}, {2, 3, 4}, {4, 1}}, []int{4}},
		// What a row has more than once isn't in more rows for that.
		{[][]int{{7, 7}, {8}}, nil},
		{[][]int{{7, 7, 7}, {8}, {9}}, nil},
		{[][]int{{7, 7}, {7}, {9}}, nil},
		{[][]int{{7, 7}, {7}}, []int{7}},
		{[][]int{{7}, {7, 7, 7}}, []int{7}},
		{[][]int{{7, 7}, {7, 7}}, []int{7}},
		{[][]int{{9, 1, 9, 1}, {1, 9, 1}}, []int{1, 9}},
	} {
		meetIs(t, c.l, c.want)
	}
}

func TestMeetOfTheLeastAndTheGreatestNumbers(t *testing.T) {
	meetIs(t, [][]int{{most, least}}, []int{least, most})
	meetIs(t, [][]int{{most}, {least}}, nil)
	meetIs(t, [][]int{{most, least}, {least, most}}, []int{least, most})
	meetIs(t, [][]int{{most, 0, least}, {least, -1, most}}, []int{least, most})
	meetIs(t, [][]int{{most, most - 1}, {most, least}}, []int{most})
	meetIs(t, [][]int{{least, least + 1}, {most, least}}, []int{least})
}

func TestMeetOfManyRows(t *testing.T) {
	for _, many := range []int{2, 3, 7, 100, 1000} {
		var rows [][]int
		for i := range many {
			rows = append(rows, []int{most, i, -1, 5000 + i%2, least, -1})
		}
		if got := Meet(rows...); !slices.Equal(got, []int{least, -1, most}) {
			t.Errorf("Meet of %d rows: %v", many, got)
		}
		rows[many/2] = []int{0, 1, 2}
		if got := Meet(rows...); !slices.Equal(got, wantMeet(rows)) {
			t.Errorf("Meet of %d rows, one of them another one: %v", many, got)
		}
	}
}

func TestLessOfSomeRows(t *testing.T) {
	for _, c := range []struct{ a, b, want []int }{
		{nil, nil, nil},
		{[]int{}, []int{}, nil},
		{nil, []int{1, 2}, nil},
		{[]int{}, []int{1, 2}, nil},
		{[]int{2, 1, 2}, nil, []int{1, 2}},
		{[]int{2, 1, 2}, []int{}, []int{1, 2}},
		{[]int{1, 2, 3}, []int{1, 2, 3}, nil},
		{[]int{1, 2, 3}, []int{3, 1, 2}, nil},
		{[]int{1, 2, 1}, []int{2, 2, 1}, nil},
		{[]int{2}, []int{1, 2, 3}, nil},
		{[]int{5, 1}, []int{1, 2, 3, 4}, []int{5}},
		{[]int{0, 5}, []int{1, 2, 3, 4}, []int{0, 5}},
		{[]int{1, 2, 3, 4}, []int{3}, []int{1, 2, 4}},
		{[]int{4, 3, 2, 1}, []int{3}, []int{1, 2, 4}},
		{[]int{3, 1, 3}, []int{1, 1}, []int{3}},
		{[]int{3, 1}, []int{3, 3}, []int{1}},
		{[]int{3, 1}, []int{3, 3, 3}, []int{1}},
		{[]int{3, 3, 1}, []int{3}, []int{1}},
		{[]int{1}, []int{2, 2}, []int{1}},
		{[]int{1, 1}, []int{2, 2}, []int{1}},
		{[]int{0}, []int{1}, []int{0}},
		{[]int{1}, []int{0}, []int{1}},
		{[]int{0}, []int{0}, nil},
		{[]int{1, 2}, []int{3, 4}, []int{1, 2}},
		{[]int{3, 4}, []int{1, 2}, []int{3, 4}},
		{[]int{1, 2}, []int{2, 3}, []int{1}},
		{[]int{2, 3}, []int{1, 2}, []int{3}},
		{[]int{most, least}, []int{most}, []int{least}},
		{[]int{most, least}, []int{least}, []int{most}},
		{[]int{most, least, 0}, []int{most - 1, least + 1}, []int{least, 0, most}},
		{[]int{most, least}, []int{least, most}, nil},
	} {
		lessIs(t, c.a, c.b, c.want)
	}
}

func TestAnyRowsMeetAndAreLessAsTheWordsSay(t *testing.T) {
	r := rand.New(rand.NewSource(112))
	met, left := 0, 0
	for range 20000 {
		n := anyInts(r)
		got := Meet(n...)
		if want := wantMeet(n); !slices.Equal(got, want) {
			t.Fatalf("Meet(%v) = %v, want %v", n, got, want)
		}
		if len(n) > 1 && len(got) > 0 {
			met++
		}
		a, b := anyRow(r), anyRow(r)
		got = Less(a, b)
		if want := wantLess(a, b); !slices.Equal(got, want) {
			t.Fatalf("Less(%v, %v) = %v, want %v", a, b, got, want)
		}
		if len(got) > 0 && len(b) > 0 {
			left++
		}
	}
	if met < 1000 || left < 1000 {
		t.Errorf("only %d times rows met, and %d times something was left: the draw is too lean", met, left)
	}
}

// P11.3

func TestTheOrderOfRowsPlaysNoPart(t *testing.T) {
	texts := [][][]byte{itemsOf("b", "a"), nil, itemsOf("ab", "b", ""), itemsOf("c", "a"), itemsOf("\xff", "\x80")}
	numbers := [][]int{{2, 1, 5}, {5, least, 2}, {3, 5, 2, 2}, {most, 5, 2}, {2, 5}}
	wantTexts := itemsOf("", "a", "ab", "b", "c", "\x80", "\xff")
	all := orders(5)
	if len(all) != 120 {
		t.Fatalf("%d orders", len(all))
	}
	for _, order := range all {
		itemsAre(t, picked(texts, order), wantTexts)
		intsAre(t, picked(numbers, order), []int{least, 1, 2, 3, 5, most})
		meetIs(t, picked(numbers, order), []int{2, 5})
	}
}

func TestTheOrderOfWhatIsInRowsPlaysNoPart(t *testing.T) {
	texts := itemsOf("a", "", "ab", "a", "\x80")
	numbers := []int{3, least, 3, most, 0}
	for _, order := range orders(5) {
		itemsAre(t, [][][]byte{itemsOf("b", "a"), picked(texts, order)}, itemsOf("", "a", "ab", "b", "\x80"))
		row := picked(numbers, order)
		intsAre(t, [][]int{row, {2, 1}}, []int{least, 0, 1, 2, 3, most})
		meetIs(t, [][]int{{0, 4, 3}, row}, []int{0, 3})
		lessIs(t, row, []int{5, 0}, []int{least, 3, most})
		lessIs(t, []int{5, 0, 3, 1}, row, []int{1, 5})
	}
}

// shuffled is rows in another order, with what is in them in another order, too.
func shuffled[T any](r *rand.Rand, l [][]T) [][]T {
	out := picked(l, r.Perm(len(l)))
	for i, row := range out {
		out[i] = picked(row, r.Perm(len(row)))
	}
	return out
}

func TestNoOrderOfAnyRowsPlaysAPart(t *testing.T) {
	r := rand.New(rand.NewSource(113))
	for range 10000 {
		l := anyItems(r)
		if got, want := Items(shuffled(r, l)...), Items(l...); !same(got, want) {
			t.Fatalf("Items(%q) = %q, in another order %q", l, want, got)
		}
		n := anyInts(r)
		other := shuffled(r, n)
		if got, want := Ints(other...), Ints(n...); !slices.Equal(got, want) {
			t.Fatalf("Ints(%v) = %v, in another order %v", n, want, got)
		}
		if got, want := Meet(other...), Meet(n...); !slices.Equal(got, want) {
			t.Fatalf("Meet(%v) = %v, in another order %v", n, want, got)
		}
		a, b := anyRow(r), anyRow(r)
		if got, want := Less(picked(a, r.Perm(len(a))), picked(b, r.Perm(len(b)))), Less(a, b); !slices.Equal(got, want) {
			t.Fatalf("Less(%v, %v) = %v, in another order %v", a, b, want, got)
		}
	}
}

func TestRowsThatArePutTogetherBitByBit(t *testing.T) {
	r := rand.New(rand.NewSource(114))
	for range 5000 {
		l, n := anyItems(r), anyInts(r)
		all, allInts := Items(l...), Ints(n...)
		for k := range len(l) + 1 {
			if got := Items(append([][][]byte{Items(l[:k]...)}, l[k:]...)...); !same(got, all) {
				t.Fatalf("Items of %q and of %q: %q, of all %q", l[:k], l[k:], got, all)
			}
			if got := Items(Items(l[:k]...), Items(l[k:]...)); !same(got, all) {
				t.Fatalf("Items of Items of %q and of %q: %q, of all %q", l[:k], l[k:], got, all)
			}
		}
		for k := range len(n) + 1 {
			if got := Ints(append([][]int{Ints(n[:k]...)}, n[k:]...)...); !slices.Equal(got, allInts) {
				t.Fatalf("Ints of %v and of %v: %v, of all %v", n[:k], n[k:], got, allInts)
			}
			if got := Ints(Ints(n[:k]...), Ints(n[k:]...)); !slices.Equal(got, allInts) {
				t.Fatalf("Ints of Ints of %v and of %v: %v, of all %v", n[:k], n[k:], got, allInts)
			}
			if k > 0 {
				if got := Meet(append([][]int{Meet(n[:k]...)}, n[k:]...)...); !slices.Equal(got, Meet(n...)) {
					t.Fatalf("Meet of %v and of %v: %v, of all %v", n[:k], n[k:], got, Meet(n...))
				}
			}
		}
		if got := Items(slices.Concat(l...)); !same(got, all) {
			t.Fatalf("Items of %q as one row: %q, want %q", l, got, all)
		}
		if got := Items(all); !same(got, all) {
			t.Fatalf("Items of %q: %q", all, got)
		}
	}
}

// What holds for all calls.

// laidItems lays items one behind another into one array, with room behind each item, each row, and all rows, and tells whether all is as it was.
func laidItems(l [][][]byte) ([][][]byte, func() bool) {
	var whole []byte
	for _, item := range slices.Concat(l...) {
		whole = append(append(whole, item...), "room"...)
	}
	at := 0
	var all [][]byte
	rows := make([][][]byte, 0, len(l)+1)
	// All rows stand in one array, too, each with a stranger behind it.
	for _, row := range l {
		for _, item := range row {
			all = append(all, whole[at:at+len(item)])
			at += len(item) + 4
		}
		all = append(all, []byte("stranger"))
	}
	from := 0
	for _, row := range l {
		rows = append(rows, all[from:from+len(row)])
		from += len(row) + 1
	}
	full := append(rows, itemsOf("one row more"))
	bytesBefore, itemsBefore, rowsBefore := slices.Clone(whole), slices.Clone(all), slices.Clone(full)
	return rows, func() bool {
		return bytes.Equal(whole, bytesBefore) && slices.EqualFunc(all, itemsBefore, sameMemory) &&
			slices.EqualFunc(full, rowsBefore, sameMemory) && same(full[len(l)], itemsOf("one row more"))
	}
}

// laidInts lays numbers into one array, with room behind each row and all rows, and tells whether all is as it was.
func laidInts(l [][]int) ([][]int, func() bool) {
	var whole []int
	for _, row := range l {
		whole = append(append(whole, row...), 77)
	}
	rows := make([][]int, 0, len(l)+1)
	from := 0
	for _, row := range l {
		rows = append(rows, whole[from:from+len(row)])
		from += len(row) + 1
	}
	full := append(rows, []int{78})
	before, rowsBefore := slices.Clone(whole), slices.Clone(full)
	return rows, func() bool {
		return slices.Equal(whole, before) && slices.EqualFunc(full, rowsBefore, sameMemory)
	}
}

// sameMemory tells whether two lists are the same piece of the same array.
func sameMemory[T any](a, b []T) bool {
	return len(a) == len(b) && cap(a) == cap(b) && (len(a) == 0 || &a[0] == &b[0])
}

func TestWhatIsHandedInIsNotChanged(t *testing.T) {
	r := rand.New(rand.NewSource(115))
	for range 5000 {
		l := anyItems(r)
		rows, asItWas := laidItems(l)
		if Items(rows...); !asItWas() {
			t.Fatalf("Items changed %q", l)
		}
		n := anyInts(r)
		numbers, asItWas := laidInts(n)
		if Ints(numbers...); !asItWas() {
			t.Fatalf("Ints changed %v", n)
		}
		if Meet(numbers...); !asItWas() {
			t.Fatalf("Meet changed %v", n)
		}
		for i := 1; i < len(n); i++ {
			if Less(numbers[i-1], numbers[i]); !asItWas() {
				t.Fatalf("Less changed %v", n)
			}
		}
	}
}

// scribble writes over a list, and over the room behind its end.
func scribble[T any](l []T, what T) {
	l = l[:cap(l)]
	for i := range l {
		l[i] = what
	}
}

// someRows are rows whose answers are alike to a row that is handed in: those are shared most easily.
func someRows() [][][][]byte {
	return [][][][]byte{
		{itemsOf("a", "b", "c")},
		{itemsOf("a", "b", "c"), nil},
		{itemsOf("", "a"), {nil}},
		{itemsOf("a"), itemsOf("b")},
		{itemsOf("a", "b"), itemsOf("a", "b")},
	}
}

func TestItemsThatAreToldAreNewMemory(t *testing.T) {
	r := rand.New(rand.NewSource(116))
	all := someRows()
	for range 3000 {
		all = append(all, anyItems(r))
	}
	for _, l := range all {
		want := wantItems(l)
		rows, asItWas := laidItems(l)
		first, second := Items(rows...), Items(rows...)
		for i := range first {
			scribble(first[i], 1)
			first[i] = want[i]
			if !same(first, want) {
				t.Fatalf("items of %q share memory", l)
			}
		}
		scribble(first, nil)
		if !asItWas() || !same(second, want) {
			t.Fatalf("Items of %q shares memory", l)
		}
		for _, row := range rows {
			for _, item := range row {
				scribble(item[:len(item):len(item)], 1)
			}
			scribble(row[:len(row):len(row)], nil)
		}
		scribble(rows[:len(rows):len(rows)], nil)
		if !same(second, want) {
			t.Fatalf("Items keeps %q", l)
		}
		if got := Items(l...); !same(got, want) {
			t.Fatalf("Items of %q are others later: %q", l, got)
		}
	}
}

// numbersAreNew asks twice for numbers of rows, and holds that neither answer shares memory with the other one or with the rows.
func numbersAreNew(t *testing.T, what string, l [][]int, want []int, ask func([][]int) []int) {
	t.Helper()
	rows, asItWas := laidInts(l)
	first, second := ask(rows), ask(rows)
	scribble(first, 1)
	if !asItWas() || !slices.Equal(second, want) {
		t.Fatalf("%s of %v shares memory", what, l)
	}
	for _, row := range rows {
		scribble(row[:len(row):len(row)], 1)
	}
	scribble(rows[:len(rows):len(rows)], nil)
	if !slices.Equal(second, want) {
		t.Fatalf("%s keeps %v", what, l)
	}
	if got := ask(l); !slices.Equal(got, want) {
		t.Fatalf("%s of %v is another one later: %v", what, l, got)
	}
}

func TestNumbersThatAreToldAreNewMemory(t *testing.T) {
	r := rand.New(rand.NewSource(117))
	all := [][][]int{{{1, 2, 3}, nil}, {{1, 2, 3}, {1, 2, 3}}, {{1, 2, 3}}, {{1, 2}, {3, 4}}, {nil, {1}}}
	for range 3000 {
		all = append(all, anyInts(r))
	}
	for _, l := range all {
		numbersAreNew(t, "Ints", l, wantInts(l), func(l [][]int) []int { return Ints(l...) })
		numbersAreNew(t, "Meet", l, wantMeet(l), func(l [][]int) []int { return Meet(l...) })
		if len(l) > 1 {
			numbersAreNew(t, "Less", l, wantLess(l[0], l[1]), func(l [][]int) []int { return Less(l[0], l[1]) })
		}
	}
}

func TestOneRowMayBeHandedInTwice(t *testing.T) {
	row := []int{3, 1, 2, 1}
	intsAre(t, [][]int{row, row, row[1:3]}, []int{1, 2, 3})
	meetIs(t, [][]int{row, row, row[1:3]}, []int{1, 2})
	lessIs(t, row, row, nil)
	lessIs(t, row, row[1:], []int{3})
	items := itemsOf("b", "a", "b")
	itemsAre(t, [][][]byte{items, items, items[2:]}, itemsOf("a", "b"))
}
