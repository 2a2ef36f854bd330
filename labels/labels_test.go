package labels

import (
	"bytes"
	"math/rand"
	"regexp"
	"slices"
	"strings"
	"testing"

	"esker/api"
)

// rowOf is labels out of names and values by turns.
func rowOf(texts ...string) []api.Label {
	var l []api.Label
	for i := 0; i+1 < len(texts); i += 2 {
		l = append(l, api.Label{Name: texts[i], Value: texts[i+1]})
	}
	return l
}

var names = regexp.MustCompile(`\A[a-z0-9_]{1,12}\z`)

// wantName is whether a name may be, by the document's words.
func wantName(s string) bool { return names.MatchString(s) }

// wantMayBe is whether labels may be, by the document's words.
func wantMayBe(l []api.Label) bool {
	met := map[string]bool{}
	for _, one := range l {
		if met[one.Name] || !wantName(one.Name) || len(one.Value) == 0 || len(one.Value) > 16 {
			return false
		}
		met[one.Name] = true
	}
	return len(l) >= 1 && len(l) <= 6
}

// wantCanon is labels in their order, each put in ahead of the first one that is above it.
func wantCanon(l []api.Label) ([]api.Label, api.Errno) {
	if !wantMayBe(l) {
		return nil, api.ErrLabels
	}
	var out []api.Label
	for _, one := range l {
		place := 0
		for place < len(out) && out[place].Name < one.Name {
			place++
		}
		out = slices.Insert(out, place, one)
	}
	return out, api.OK
}

// wantCompare is the order of rows of labels, by the texts as they come.
func wantCompare(a, b []api.Label) int {
	texts := func(l []api.Label) []string {
		var out []string
		for _, one := range l {
			out = append(out, one.Name, one.Value)
		}
		return out
	}
	return slices.Compare(texts(a), texts(b))
}

var escapes = strings.NewReplacer("\x00", "\x02\x03", "\x01", "\x02\x04", "\x02", "\x02\x05")

// wantEscape is a text escaped, by the library's means.
func wantEscape(s string) []byte { return []byte(escapes.Replace(s) + "\x01") }

// wantCut takes a text off b byte by byte, by what the document says of errors.
func wantCut(b []byte) (string, []byte, api.Errno) {
	var text []byte
	for {
		switch {
		case len(b) == 0 || len(b) == 1 && b[0] == 2:
			return "", nil, api.ErrShort
		case b[0] == 1:
			return string(text), b[1:], api.OK
		case b[0] == 0 || b[0] == 2 && !bytes.Contains([]byte{3, 4, 5}, b[1:2]):
			return "", nil, api.ErrForm
		case b[0] == 2:
			text, b = append(text, b[1]-3), b[2:]
		default:
			text, b = append(text, b[0]), b[1:]
		}
	}
}

// wantMarshal is the bytes of labels, by the document's words.
func wantMarshal(l []api.Label) ([]byte, api.Errno) {
	own, e := wantCanon(l)
	var b []byte
	for _, one := range own {
		b = slices.Concat(b, wantEscape(one.Name), wantEscape(one.Value))
	}
	return b, e
}

// wantUnmarshal cuts all texts off b, and asks whether their bytes are b.
func wantUnmarshal(b []byte) ([]api.Label, api.Errno) {
	var texts []string
	for rest := b; len(rest) > 0 || len(texts)%2 == 1; {
		text, behind, e := wantCut(rest)
		if e != api.OK {
			return nil, e
		}
		texts, rest = append(texts, text), behind
	}
	l := rowOf(texts...)
	if back, e := wantMarshal(l); e != api.OK || !bytes.Equal(back, b) {
		return nil, api.ErrForm
	}
	return l, api.OK
}

// allBytes is a text of each byte there is, from one on to ahead of another one.
func allBytes(from, to int) string {
	var b []byte
	for c := from; c < to; c++ {
		b = append(b, byte(c))
	}
	return string(b)
}

// sixLabels are as many as may be, with names and values as long as they may be among them.
func sixLabels() []api.Label {
	return rowOf("job", "x", "a", "\x00\x01\x02\x03", "abcdefghijkl", allBytes(0, 16), "_", allBytes(240, 256), "0", " ", "a_0", "\xff")
}

// labelsThatMayBe are rows of labels from one to as many as may be, in this order or another one.
func labelsThatMayBe() [][]api.Label {
	l := [][]api.Label{
		rowOf("job", "x"), rowOf("a", "\x01"), rowOf("job", "x", "a", "\x01"), rowOf("a", "\x01", "job", "x"),
		rowOf("_", "\x00"), rowOf("0", "\x02", "_", "\x02"), rowOf("abcdefghijkl", strings.Repeat("\x02", 16)),
		rowOf("b", "x", "a", "x"), rowOf("ab", "x", "a", "x"), rowOf("b", "a", "a", "b"), sixLabels(), sixLabels()[1:],
	}
	for c := range 256 {
		l = append(l, rowOf("a", string([]byte{byte(c)})), rowOf("b", string([]byte{'x', byte(c), 'y'}), "a", "z"))
	}
	for n := 1; n <= 16; n++ {
		l = append(l, rowOf("a", strings.Repeat("\x01", n)), rowOf("a", strings.Repeat("\xff", n)))
	}
	for n := 1; n <= 12; n++ {
		l = append(l, rowOf(strings.Repeat("z", n), "x"))
	}
	return l
}

// labelsThatMayNotBe have each something that may not be.
func labelsThatMayNotBe() [][]api.Label {
	seven := append(sixLabels(), api.Label{Name: "b", Value: "x"})
	return [][]api.Label{
		nil, {}, make([]api.Label, 1), make([]api.Label, 7), seven, slices.Concat(seven, seven),
		rowOf("", "x"), rowOf("abcdefghijklm", "x"), rowOf("A", "x"), rowOf("a-b", "x"), rowOf("a b", "x"), rowOf("\x01", "x"), rowOf("é", "x"),
		rowOf("a", ""), rowOf("a", strings.Repeat("x", 17)), rowOf("a", strings.Repeat("\x00", 17)),
		rowOf("a", "x", "a", "x"), rowOf("a", "x", "a", "y"), rowOf("a", "y", "b", "x", "a", "x"), rowOf("b", "x", "a", "x", "b", "x"),
		rowOf("a", "x", "b", ""), rowOf("b", "x", "a", ""), rowOf("b", "", "a", "x"), rowOf("a", "x", "", "x"), rowOf("", "x", "a", "x"), rowOf("z", "x", "A", "x"),
		append(sixLabels()[:5:5], api.Label{Name: "job", Value: "y"}), append(sixLabels()[1:], api.Label{Name: "a", Value: "y"}),
	}
}

// inAllOrders goes through the orders that a row of labels may come in.
func inAllOrders(l []api.Label, tell func([]api.Label)) {
	if len(l) == 0 {
		tell(nil)
		return
	}
	for i := range l {
		inAllOrders(slices.Concat(l[:i], l[i+1:]), func(rest []api.Label) { tell(append([]api.Label{l[i]}, rest...)) })
	}
}

// scribble writes over a list and over the room behind its end.
func scribble[T any](l []T, with T) {
	l = l[:cap(l)]
	for i := range l {
		l[i] = with
	}
}

// guarded is a copy of a list with room behind its end, and a check that neither is changed.
func guarded[T comparable](l []T, room T) ([]T, func() bool) {
	all := append(slices.Clone(l), room, room, room)
	before := slices.Clone(all)
	return all[:len(l)], func() bool { return slices.Equal(all, before) }
}

// P7.1

func TestNamesMayHaveOneToTwelveBytes(t *testing.T) {
	for n := range 40 {
		if got, want := Name(strings.Repeat("a", n)), n >= 1 && n <= 12; got != want {
			t.Errorf("Name of %d bytes = %v", n, got)
		}
	}
	for s, want := range map[string]bool{
		"": false, "a": true, "abcdefghijkl": true, "abcdefghijklm": false, "job": true, "_": true, "0": true, "9z_": true, "____________": true,
		"012345678901": true, "0123456789012": false, "é": false, "aé": false, "Job": false, "joB": false, "a b": false, "a\n": false, "a\x00": false,
	} {
		if got := Name(s); got != want {
			t.Errorf("Name(%q) = %v", s, got)
		}
	}
}

func TestNamesMayHaveLettersDigitsAndLines(t *testing.T) {
	for c := range 256 {
		one := string([]byte{byte(c)})
		want := strings.Contains("abcdefghijklmnopqrstuvwxyz0123456789_", one)
		for _, s := range []string{one, one + "a", "a" + one, "a" + one + "a", "abcdefghijk" + one} {
			if got := Name(s); got != want || wantName(s) != want {
				t.Errorf("Name(%q) = %v", s, got)
			}
		}
	}
}

func TestCanonPutsLabelsInTheirOrder(t *testing.T) {
	six := sixLabels()
	for n := 1; n <= 6; n++ {
		want, _ := wantCanon(six[:n])
		inAllOrders(six[:n], func(l []api.Label) {
			if got, e := Canon(l); !slices.Equal(got, want) || e != api.OK {
				t.Fatalf("Canon(%q) = %q, %v", l, got, e)
			}
		})
	}
	got, e := Canon(rowOf("job", "x", "a", "\x01"))
	if !slices.Equal(got, rowOf("a", "\x01", "job", "x")) || e != api.OK {
		t.Errorf("%q, %v", got, e)
	}
}

func TestCanonOrdersByNameWhateverTheValuesAre(t *testing.T) {
	l := rowOf("b", "\x00", "ab", "z", "a", "\xff", "a_", "1", "a0", "2", "0", "3")
	want := rowOf("0", "3", "a", "\xff", "a0", "2", "a_", "1", "ab", "z", "b", "\x00")
	if got, e := Canon(l); !slices.Equal(got, want) || e != api.OK {
		t.Errorf("%q, %v", got, e)
	}
}

func TestCanonTakesWhatMayBe(t *testing.T) {
	for _, l := range labelsThatMayBe() {
		want, _ := wantCanon(l)
		if got, e := Canon(l); !slices.Equal(got, want) || e != api.OK {
			t.Errorf("Canon(%q) = %q, %v", l, got, e)
		}
	}
}

func TestCanonRefusesWhatMayNotBe(t *testing.T) {
	for _, l := range labelsThatMayNotBe() {
		if got, e := Canon(l); len(got) != 0 || e != api.ErrLabels {
			t.Errorf("Canon(%q) = %q, %v", l, got, e)
		}
	}
}

func TestCanonRefusesTwoNamesAlikeWhereverTheyStand(t *testing.T) {
	for _, value := range []string{"x", "\x00\x01\x02\x03", "z"} {
		inAllOrders(append(sixLabels()[:4:4], api.Label{Name: "a", Value: value}), func(l []api.Label) {
			if got, e := Canon(l); len(got) != 0 || e != api.ErrLabels {
				t.Fatalf("Canon(%q) = %q, %v", l, got, e)
			}
		})
	}
}

func TestValuesMayHaveOneToSixteenBytes(t *testing.T) {
	for n := range 40 {
		for _, c := range []string{"x", "\x00", "\xff"} {
			l := rowOf("b", "y", "a", strings.Repeat(c, n))
			if _, e := Canon(l); (e == api.OK) != (n >= 1 && n <= 16) {
				t.Errorf("a value of %d bytes: %v", n, e)
			}
		}
	}
	for c := range 256 {
		l := rowOf("a", string([]byte{byte(c)}))
		if got, e := Canon(l); !slices.Equal(got, l) || e != api.OK {
			t.Errorf("Canon(%q) = %q, %v", l, got, e)
		}
	}
}

func TestGetIsTheFirstOfAName(t *testing.T) {
	l := rowOf("job", "x", "a", "1", "job", "y", "a", "", "", "none", "A b", "\x00")
	for name, want := range map[string]string{"job": "x", "a": "1", "": "none", "A b": "\x00", "b": "", "jo": "", "jobs": "", "Job": "", "x": ""} {
		if got := Get(l, name); got != want {
			t.Errorf("Get(%q) = %q, want %q", name, got, want)
		}
	}
	if got := Get(rowOf("a", "", "a", "x"), "a"); got != "" {
		t.Errorf("the first one is empty, and %q is told", got)
	}
	for _, none := range [][]api.Label{nil, {}} {
		if Get(none, "a") != "" || Get(none, "") != "" {
			t.Error("there are no labels")
		}
	}
}

// P7.2

func TestCompareOfRows(t *testing.T) {
	for _, c := range []struct {
		a, b []api.Label
		want int
	}{
		{nil, nil, 0}, {nil, []api.Label{}, 0}, {nil, rowOf("", ""), -1}, {nil, rowOf("a", "x"), -1},
		{rowOf("a", "x"), rowOf("a", "x"), 0}, {rowOf("a", "x"), rowOf("b", "x"), -1}, {rowOf("a", "x"), rowOf("a", "y"), -1},
		{rowOf("a", "z"), rowOf("b", "x"), -1}, {rowOf("a", "x"), rowOf("ab", "x"), -1}, {rowOf("a", "x"), rowOf("a", "x\x00"), -1},
		{rowOf("a", ""), rowOf("a", "\x00"), -1}, {rowOf("a", "\x7f"), rowOf("a", "\x80"), -1}, {rowOf("a", "\x00"), rowOf("a", "\xff"), -1},
		{rowOf("A", "x"), rowOf("_", "x"), -1}, {rowOf("9", "x"), rowOf("_", "x"), -1}, {rowOf("_", "x"), rowOf("a", "x"), -1},
		{rowOf("a", "x"), rowOf("a", "x", "b", "x"), -1}, {rowOf("a", "x", "b", "x"), rowOf("a", "y"), -1}, {rowOf("a", "x", "z", "z"), rowOf("b", "x"), -1},
		{rowOf("a", "x", "b", "y"), rowOf("a", "x", "b", "z"), -1}, {rowOf("a", "x", "b", "y"), rowOf("a", "x", "c", "a"), -1},
		{rowOf("a", "x", "b", "y"), rowOf("b", "y", "a", "x"), -1}, {rowOf("b", "y", "a", "x"), rowOf("b", "y", "a", "x"), 0},
		{rowOf("b", "y", "a", "x"), rowOf("b", "y", "a", "x", "a", "x"), -1}, {rowOf("b", "y", "a", "x"), rowOf("b", "y", "b", "a"), -1},
		{rowOf("ab", "c"), rowOf("abc", ""), -1}, {rowOf("a", "bc"), rowOf("ab", "c"), -1}, {rowOf("", "b"), rowOf("a", ""), -1},
		{sixLabels(), sixLabels(), 0}, {sixLabels()[:5], sixLabels(), -1}, {make([]api.Label, 7), make([]api.Label, 8), -1},
	} {
		if got := Compare(c.a, c.b); got != c.want {
			t.Errorf("Compare(%q, %q) = %d", c.a, c.b, got)
		}
		if got := Compare(c.b, c.a); got != -c.want {
			t.Errorf("Compare(%q, %q) = %d", c.b, c.a, got)
		}
	}
}

func TestCompareIsThatOfTheWords(t *testing.T) {
	r := rand.New(rand.NewSource(72))
	for range 40000 {
		a, b := anyRow(r, 4), anyRow(r, 4)
		if r.Intn(3) == 0 {
			b = append(slices.Clone(a), b...)
		}
		if got, want := Compare(a, b), wantCompare(a, b); got != want {
			t.Fatalf("Compare(%q, %q) = %d, want %d", a, b, got, want)
		}
	}
}

// anyRow is labels of few texts, so that they are alike now and then, in whatever order.
func anyRow(r *rand.Rand, most int) []api.Label {
	texts := []string{"", "a", "b", "ab", "a\x00", "\x00", "\x01", "\x02", "\x03", "\xff", "a_", "A"}
	var l []api.Label
	for range r.Intn(most + 1) {
		l = append(l, api.Label{Name: texts[r.Intn(len(texts))], Value: texts[r.Intn(len(texts))]})
	}
	return l
}

// P7.3

func TestEscapeOfEachByte(t *testing.T) {
	for s, want := range map[string]string{
		"": "\x01", "\x00": "\x02\x03\x01", "\x01": "\x02\x04\x01", "\x02": "\x02\x05\x01", "\x03": "\x03\x01", "\x04": "\x04\x01", "\x05": "\x05\x01",
		"\xff": "\xff\x01", "job": "job\x01", "\x00\x01\x02\x03\xff": "\x02\x03\x02\x04\x02\x05\x03\xff\x01", "a\x02\x02b": "a\x02\x05\x02\x05b\x01", "é": "\xc3\xa9\x01",
	} {
		if got := Escape(s); string(got) != want {
			t.Errorf("Escape(%q) = %q", s, got)
		}
	}
	for c := 3; c < 256; c++ {
		if got := Escape(string([]byte{byte(c)})); !bytes.Equal(got, []byte{byte(c), 1}) {
			t.Errorf("Escape of %d = %v", c, got)
		}
	}
	for _, s := range []string{allBytes(0, 256), strings.Repeat("\x00", 1000), strings.Repeat("x", 100000)} {
		if !bytes.Equal(Escape(s), wantEscape(s)) {
			t.Errorf("Escape of %d bytes", len(s))
		}
	}
}

func TestCutOfBytes(t *testing.T) {
	for _, c := range []struct {
		b, text, rest string
		e             api.Errno
	}{
		{"\x01", "", "", api.OK}, {"\x01\x01", "", "\x01", api.OK}, {"\x01\x00\x02", "", "\x00\x02", api.OK}, {"xy\x01z", "xy", "z", api.OK},
		{"x\x01", "x", "", api.OK}, {"\x02\x03\x01", "\x00", "", api.OK}, {"\x02\x04\x01", "\x01", "", api.OK}, {"\x02\x05\x01", "\x02", "", api.OK},
		{"a\x02\x03\x02\x04\x02\x05\x03\xff\x01\x02", "a\x00\x01\x02\x03\xff", "\x02", api.OK}, {"\x03\x04\x05\x01\x01", "\x03\x04\x05", "\x01", api.OK},
		{"", "", "", api.ErrShort}, {"a", "", "", api.ErrShort}, {"abc", "", "", api.ErrShort}, {"\xff", "", "", api.ErrShort}, {"\x02", "", "", api.ErrShort},
		{"a\x02", "", "", api.ErrShort}, {"\x02\x03", "", "", api.ErrShort}, {"\x02\x04", "", "", api.ErrShort}, {"\x02\x05\x02", "", "", api.ErrShort}, {"\x03", "", "", api.ErrShort},
		{"\x00", "", "", api.ErrForm}, {"\x00\x01", "", "", api.ErrForm}, {"a\x00", "", "", api.ErrForm}, {"a\x00b\x01", "", "", api.ErrForm}, {"\x00\x02", "", "", api.ErrForm},
		{"\x02\x00", "", "", api.ErrForm}, {"\x02\x01", "", "", api.ErrForm}, {"\x02\x02", "", "", api.ErrForm}, {"\x02\x06", "", "", api.ErrForm}, {"\x02\xff", "", "", api.ErrForm},
		{"\x02\x01\x01", "", "", api.ErrForm}, {"\x02\x02\x03\x01", "", "", api.ErrForm}, {"\x02a\x01", "", "", api.ErrForm}, {"a\x02\x05\x06\x00", "", "", api.ErrForm},
	} {
		text, rest, e := Cut([]byte(c.b))
		if text != c.text || string(rest) != c.rest || e != c.e {
			t.Errorf("Cut(%q) = %q, %q, %v", c.b, text, rest, e)
		}
	}
	if text, rest, e := Cut(nil); text != "" || len(rest) != 0 || e != api.ErrShort {
		t.Errorf("Cut(nil) = %q, %q, %v", text, rest, e)
	}
}

func TestCutOfAMarkWithEachNextByte(t *testing.T) {
	for c := range 256 {
		for _, head := range []string{"", "a", "\x02\x05"} {
			b := append([]byte(head), 2, byte(c), 1, 'z')
			text, rest, e := Cut(b)
			if c < 3 || c > 5 {
				if text != "" || len(rest) != 0 || e != api.ErrForm {
					t.Errorf("Cut(%v) = %q, %q, %v", b, text, rest, e)
				}
				continue
			}
			want := strings.ReplaceAll(head, "\x02\x05", "\x02") + string([]byte{byte(c - 3)})
			if text != want || string(rest) != "z" || e != api.OK {
				t.Errorf("Cut(%v) = %q, %q, %v", b, text, rest, e)
			}
		}
	}
}

func TestCutTakesOffWhatEscapeMade(t *testing.T) {
	texts := []string{"", "a", "\x00", "\x01", "\x02", "\x03", "\x02\x03", allBytes(0, 256), strings.Repeat("\x01", 5000), strings.Repeat("é", 5000)}
	for c := range 256 {
		texts = append(texts, string([]byte{byte(c)}), string([]byte{byte(c), byte(c), 'x'}))
	}
	for _, s := range texts {
		for _, behind := range []string{"", "\x00", "\x01", "\x02", "z", "\x02\x06\x01"} {
			text, rest, e := Cut(append(Escape(s), behind...))
			if text != s || string(rest) != behind || e != api.OK {
				t.Errorf("%q ahead of %q: %q, %q, %v", s, behind, text, rest, e)
			}
		}
	}
}

func TestCutOfAnyFewBytes(t *testing.T) {
	for _, b := range fewBytes([]byte{0, 1, 2, 3, 5, 6, 'a'}, 6) {
		text, rest, e := Cut(b)
		wantText, wantRest, want := wantCut(b)
		if text != wantText || !bytes.Equal(rest, wantRest) || e != want {
			t.Fatalf("Cut(%v) = %q, %v, %v, want %q, %v, %v", b, text, rest, e, wantText, wantRest, want)
		}
		// What is cut off is escaped to the bytes that were there: a text has one form alone.
		if e == api.OK && !bytes.Equal(append(Escape(text), rest...), b) {
			t.Fatalf("Cut(%v) = %q, that is escaped otherwise", b, text)
		}
	}
}

// fewBytes are all lists of these bytes up to a length.
func fewBytes(of []byte, most int) [][]byte {
	all := [][]byte{nil}
	for from, n := 0, 0; n < most; n++ {
		to := len(all)
		for _, b := range all[from:to] {
			for _, c := range of {
				all = append(all, append(slices.Clone(b), c))
			}
		}
		from = to
	}
	return all
}

// P7.4

func TestMarshalOfTheExamples(t *testing.T) {
	for _, c := range []struct {
		l    []api.Label
		want string
	}{
		{rowOf("job", "x", "a", "\x01"), "a\x01\x02\x04\x01job\x01x\x01"},
		{rowOf("job", "x", "a", "\x00\x01\x02\x03"), "a\x01\x02\x03\x02\x04\x02\x05\x03\x01job\x01x\x01"},
		{rowOf("a", "x"), "a\x01x\x01"}, {rowOf("_", "\xff"), "_\x01\xff\x01"}, {rowOf("b", "a", "a", "b"), "a\x01b\x01b\x01a\x01"},
	} {
		if got, e := Marshal(c.l); string(got) != c.want || e != api.OK {
			t.Errorf("Marshal(%q) = %q, %v", c.l, got, e)
		}
		want, _ := wantCanon(c.l)
		if got, e := Unmarshal([]byte(c.want)); !slices.Equal(got, want) || e != api.OK {
			t.Errorf("Unmarshal(%q) = %q, %v", c.want, got, e)
		}
	}
}

func TestMarshalIsThatOfTheWords(t *testing.T) {
	for _, l := range labelsThatMayBe() {
		want, _ := wantMarshal(l)
		if got, e := Marshal(l); !bytes.Equal(got, want) || e != api.OK {
			t.Errorf("Marshal(%q) = %q, %v", l, got, e)
		}
	}
	inAllOrders(sixLabels(), func(l []api.Label) {
		want, _ := wantMarshal(sixLabels())
		if got, e := Marshal(l); !bytes.Equal(got, want) || e != api.OK {
			t.Fatalf("Marshal(%q) = %q, %v", l, got, e)
		}
	})
}

func TestMarshalRefusesWhatMayNotBe(t *testing.T) {
	for _, l := range labelsThatMayNotBe() {
		if got, e := Marshal(l); len(got) != 0 || e != api.ErrLabels {
			t.Errorf("Marshal(%q) = %q, %v", l, got, e)
		}
	}
}

func TestUnmarshalRefuses(t *testing.T) {
	seven := ""
	for _, name := range []string{"a", "b", "c", "d", "e", "f", "g"} {
		seven += name + "\x01x\x01"
	}
	for _, c := range []struct {
		b string
		e api.Errno
	}{
		// bytes that end ahead of a 1
		{"a", api.ErrShort}, {"a\x01", api.ErrShort}, {"a\x01x", api.ErrShort}, {"a\x01\x02", api.ErrShort}, {"a\x01\x02\x03", api.ErrShort}, {"\x01", api.ErrShort},
		{"a\x01x\x01b", api.ErrShort}, {"a\x01x\x01b\x01", api.ErrShort}, {"a\x01x\x01b\x01x", api.ErrShort}, {"\x02", api.ErrShort},
		// bytes that are no escaped texts
		{"\x00", api.ErrForm}, {"a\x00\x01x\x01", api.ErrForm}, {"a\x01\x00\x01", api.ErrForm}, {"a\x01\x02\x06\x01", api.ErrForm}, {"a\x01\x02\x01", api.ErrForm},
		{"a\x01x\x01\x00", api.ErrForm}, {"a\x01x\x01b\x01\x02\x02", api.ErrForm},
		// labels that may not be
		{"", api.ErrForm}, {"A\x01x\x01", api.ErrForm}, {"\x01x\x01", api.ErrForm}, {"a\x01\x01", api.ErrForm}, {"\x01\x01", api.ErrForm}, {"\x02\x03\x01x\x01", api.ErrForm},
		{"abcdefghijklm\x01x\x01", api.ErrForm}, {"a\x0101234567890123456\x01", api.ErrForm}, {seven, api.ErrForm}, {"a\x01x\x01a\x01x\x01", api.ErrForm}, {"a\x01x\x01a\x01y\x01", api.ErrForm},
		{"a\x01x\x01b\x01\x01", api.ErrForm}, {"a\x01x\x01\x01x\x01", api.ErrForm},
		// labels in another order
		{"b\x01x\x01a\x01x\x01", api.ErrForm}, {"a\x01x\x01c\x01x\x01b\x01x\x01", api.ErrForm}, {"ab\x01x\x01a\x01y\x01", api.ErrForm},
		// an error of Cut, and labels that may not be
		{"A\x01x", api.ErrShort}, {"A\x01", api.ErrShort}, {"\x01x", api.ErrShort}, {"a\x01\x01b", api.ErrShort}, {"b\x01x\x01a\x01x", api.ErrShort}, {"a\x01x\x01a\x01", api.ErrShort},
		{seven + "h", api.ErrShort}, {seven + "h\x01\x02", api.ErrShort}, {"a\x0101234567890123456", api.ErrShort},
		// both of Cut's errors
		{"a\x00", api.ErrForm}, {"a\x01\x00", api.ErrForm}, {"a\x01x\x01b\x00c", api.ErrForm}, {"a\x01\x02\x06", api.ErrForm}, {"a\x02\x06\x01x", api.ErrForm},
	} {
		if got, e := Unmarshal([]byte(c.b)); len(got) != 0 || e != c.e {
			t.Errorf("Unmarshal(%q) = %q, %v, want %v", c.b, got, e, c.e)
		}
	}
	if got, e := Unmarshal(nil); len(got) != 0 || e != api.ErrForm {
		t.Errorf("Unmarshal(nil) = %q, %v", got, e)
	}
	if got, e := Unmarshal([]byte(seven[:len(seven)-4])); len(got) != 6 || e != api.OK {
		t.Errorf("six labels: %q, %v", got, e)
	}
}

func TestUnmarshalOfBytesThatAreCut(t *testing.T) {
	b, _ := Marshal(sixLabels())
	for n := range b {
		got, e := Unmarshal(b[:n])
		want, wantE := wantUnmarshal(b[:n])
		if !slices.Equal(got, want) || e != wantE {
			t.Errorf("Unmarshal(%q) = %q, %v, want %q, %v", b[:n], got, e, want, wantE)
		}
	}
}

func TestUnmarshalOfAnyBytes(t *testing.T) {
	check := func(b []byte) {
		t.Helper()
		got, e := Unmarshal(b)
		want, wantE := wantUnmarshal(b)
		if !slices.Equal(got, want) || e != wantE {
			t.Fatalf("Unmarshal(%q) = %q, %v, want %q, %v", b, got, e, want, wantE)
		}
	}
	for _, b := range fewBytes([]byte{0, 1, 2, 3, 'a', 'b'}, 7) {
		check(b)
	}
	r := rand.New(rand.NewSource(74))
	for range 40000 {
		var b []byte
		for range r.Intn(8) {
			b = slices.Concat(b, wantEscape([]string{"a", "b", "c", "ab", "_", "\x00"}[r.Intn(6)]), wantEscape([]string{"x", "\x01", "\x02\x03", ""}[min(r.Intn(20), 3)]))
		}
		if len(b) > 0 && r.Intn(3) == 0 {
			b[r.Intn(len(b))] = []byte{0, 1, 2, 3, 6, 'a'}[r.Intn(6)]
		}
		check(b[:len(b)-r.Intn(2)*r.Intn(len(b)+1)])
	}
}

func TestUnmarshalEndsForManyTexts(t *testing.T) {
	if got, e := Unmarshal(bytes.Repeat([]byte{1}, 1<<21)); len(got) != 0 || e != api.ErrForm {
		t.Errorf("%d labels, %v", len(got), e)
	}
	if got, e := Unmarshal(bytes.Repeat([]byte{1}, 1<<21+1)); len(got) != 0 || e != api.ErrShort {
		t.Errorf("%d labels, %v", len(got), e)
	}
}

// P7.5

func TestWhatIsMarshalledIsUnmarshalled(t *testing.T) {
	for _, l := range labelsThatMayBe() {
		b, e := Marshal(l)
		if e != api.OK {
			t.Fatalf("Marshal(%q) = %v", l, e)
		}
		want, _ := Canon(l)
		if got, e := Unmarshal(b); !slices.Equal(got, want) || e != api.OK {
			t.Errorf("Unmarshal(%q) = %q, %v", b, got, e)
		}
	}
}

func TestMarshalledBytesAreInTheOrderOfTheLabels(t *testing.T) {
	rows := labelsThatMayBe()
	for _, one := range []string{"a", "b", "ab", "a_", "_", "0"} {
		for _, value := range []string{"\x00", "\x00\x00", "\x01", "\x01\x00", "\x02", "\x02\xff", "\x03", "\x04", "x", "x\x00", "x\x01", "x\x02", "x\x03", "xy", "\xff"} {
			rows = append(rows, rowOf(one, value), rowOf(one, value, "c", "z"), rowOf("c", "\x00", one, value))
		}
	}
	var ordered [][]api.Label
	var marshalled [][]byte
	for _, l := range rows {
		own, _ := Canon(l)
		b, e := Marshal(l)
		if e != api.OK {
			t.Fatalf("Marshal(%q) = %v", l, e)
		}
		ordered, marshalled = append(ordered, own), append(marshalled, b)
	}
	for i, a := range ordered {
		for j, b := range ordered {
			if got, want := bytes.Compare(marshalled[i], marshalled[j]), wantCompare(a, b); got != want || Compare(a, b) != want {
				t.Fatalf("%q and %q: %d, labels %d, bytes %d", a, b, want, Compare(a, b), got)
			}
		}
	}
}

// What holds for all calls.

func TestWhatIsHandedInIsNotChanged(t *testing.T) {
	for _, l := range slices.Concat(labelsThatMayBe()[:20], labelsThatMayNotBe()) {
		own, same := guarded(l, api.Label{Name: "room", Value: "room"})
		Canon(own)
		Get(own, "a")
		Compare(own, own)
		Marshal(own)
		if !same() {
			t.Errorf("%q was changed", l)
		}
	}
	for _, s := range []string{"", "xy\x01z", "a\x02\x04\x01", "a\x01\x02\x04\x01job\x01x\x01", "b\x01x\x01a\x01x\x01", "\x00", "a\x01\x02\x06"} {
		own, same := guarded([]byte(s), 7)
		Cut(own)
		Unmarshal(own)
		if !same() {
			t.Errorf("%q was changed", s)
		}
	}
}

func TestWhatIsToldIsNewMemory(t *testing.T) {
	l := rowOf("a", "\x01", "job", "x")
	own := slices.Clone(l)
	canon, _ := Canon(own)
	scribble(canon, api.Label{Name: "z"})
	if !slices.Equal(own, l) {
		t.Error("Canon shares what it is handed")
	}
	canon, _ = Canon(own)
	scribble(own, api.Label{Name: "z"})
	if !slices.Equal(canon, l) {
		t.Error("Canon keeps what it is handed")
	}

	b := []byte("a\x01\x02\x04\x01job\x01x\x01")
	back, _ := Unmarshal(b)
	text, rest, _ := Cut(b)
	scribble(b, 9)
	if !slices.Equal(back, l) || text != "a" || string(rest) != "\x02\x04\x01job\x01x\x01" {
		t.Errorf("%q, %q, %q hang on the bytes handed in", back, text, rest)
	}
	b = []byte("a\x01z")
	_, rest, _ = Cut(b)
	scribble(rest, 9)
	if string(b) != "a\x01z" {
		t.Error("Cut shares what lies behind")
	}
	room := append(make([]byte, 0, 20), "a\x01"...)
	_, rest, _ = Cut(room)
	scribble(rest, 9)
	if full := room[:20]; bytes.Contains(full, []byte{9}) {
		t.Error("Cut shares the room behind the end")
	}
}

func TestTwoAnswersShareNothing(t *testing.T) {
	l := rowOf("job", "x", "a", "\x01")
	first, _ := Marshal(l)
	second, _ := Marshal(l)
	scribble(first, 9)
	if string(second) != "a\x01\x02\x04\x01job\x01x\x01" {
		t.Error("Marshal")
	}
	one, other := Escape("x\x00"), Escape("x\x00")
	scribble(one, 9)
	if string(other) != "x\x02\x03\x01" {
		t.Error("Escape")
	}
	back, _ := Unmarshal(second)
	again, _ := Unmarshal(second)
	scribble(back, api.Label{})
	if !slices.Equal(again, rowOf("a", "\x01", "job", "x")) {
		t.Error("Unmarshal")
	}
}

func TestAnyLabelsAreAsTheWordsSay(t *testing.T) {
	r := rand.New(rand.NewSource(71))
	for range 40000 {
		l := anyRow(r, 8)
		if r.Intn(2) == 0 {
			l = rowOf("b", "\x01", "a", "\x00\x02", "_", "x")[r.Intn(3):]
			l = append(l, anyRow(r, 2)...)
			r.Shuffle(len(l), func(i, j int) { l[i], l[j] = l[j], l[i] })
		}
		canon, e := Canon(l)
		if want, wantE := wantCanon(l); !slices.Equal(canon, want) || e != wantE {
			t.Fatalf("Canon(%q) = %q, %v, want %q, %v", l, canon, e, want, wantE)
		}
		b, e := Marshal(l)
		if want, wantE := wantMarshal(l); !bytes.Equal(b, want) || e != wantE {
			t.Fatalf("Marshal(%q) = %q, %v, want %q, %v", l, b, e, want, wantE)
		}
	}
}
