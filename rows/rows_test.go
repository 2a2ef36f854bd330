package rows

import (
	"bytes"
	"cmp"
	"encoding/binary"
	"math"
	"math/rand"
	"regexp"
	"slices"
	"strings"
	"testing"

	"esker/api"
)

const (
	lastId  = 1 << 30
	lastDay = 1<<31 - 1
)

// labelsOf is labels out of names and values by turns.
func labelsOf(texts ...string) []api.Label {
	var l []api.Label
	for i := 0; i+1 < len(texts); i += 2 {
		l = append(l, api.Label{Name: texts[i], Value: texts[i+1]})
	}
	return l
}

// same tells whether two rows say the same; labels that are nil and those that are empty are one.
func same(a, b Row) bool {
	return a.Kind == b.Kind && slices.Equal(a.Labels, b.Labels) && a.Label == b.Label && a.Day == b.Day && a.Id == b.Id
}

// sameItems tells whether two lists have the same items.
func sameItems(a, b [][]byte) bool { return slices.EqualFunc(a, b, bytes.Equal) }

// The plain model of the document's words: kinds by their numbers, items as texts.

var namesThatMayBe = regexp.MustCompile(`\A[a-z0-9_]{1,12}\z`)

// wantLabels is labels in their order, and whether they may be.
func wantLabels(l []api.Label) ([]api.Label, bool) {
	own := slices.Clone(l)
	slices.SortStableFunc(own, func(a, b api.Label) int { return cmp.Compare(a.Name, b.Name) })
	for i, one := range own {
		if i > 0 && own[i-1].Name == one.Name || !namesThatMayBe.MatchString(one.Name) || len(one.Value) == 0 || len(one.Value) > 16 {
			return nil, false
		}
	}
	return own, len(l) >= 1 && len(l) <= 6
}

// wantMayBe is whether a row may be: it is held against one that has just what its kind names.
func wantMayBe(r Row) bool {
	_, labels := wantLabels(r.Labels)
	_, label := wantLabels([]api.Label{r.Label})
	if r.Id < 1 || r.Id > 1073741824 {
		return false
	}
	switch r.Kind {
	case 1, 2:
		return labels && same(r, Row{Kind: r.Kind, Labels: r.Labels, Id: r.Id})
	case 3:
		return label && same(r, Row{Kind: 3, Label: r.Label, Id: r.Id})
	case 4:
		return label && r.Day >= 0 && r.Day <= 2147483647 && same(r, Row{Kind: 4, Label: r.Label, Day: r.Day, Id: r.Id})
	case 5:
		return same(r, Row{Kind: 5, Id: r.Id})
	}
	return false
}

var (
	escapes   = strings.NewReplacer("\x00", "\x02\x03", "\x01", "\x02\x04", "\x02", "\x02\x05")
	unescapes = strings.NewReplacer("\x02\x03", "\x00", "\x02\x04", "\x01", "\x02\x05", "\x02")
)

// wantLabel is a label's bytes.
func wantLabel(l api.Label) string {
	return escapes.Replace(l.Name) + "\x01" + escapes.Replace(l.Value) + "\x01"
}

// wantNumber is a number's bytes.
func wantNumber(n int) string { return string(binary.BigEndian.AppendUint32(nil, uint32(n))) }

// wantMake is a row's item, by the document's table.
func wantMake(r Row) ([]byte, api.Errno) {
	if !wantMayBe(r) {
		return nil, api.ErrRow
	}
	own, _ := wantLabels(r.Labels)
	marshalled := ""
	for _, one := range own {
		marshalled += wantLabel(one)
	}
	id := wantNumber(r.Id)
	return []byte(map[int]string{
		1: "\x01" + marshalled + "\x00" + id,
		2: "\x02" + id + marshalled,
		3: "\x03" + wantLabel(r.Label) + id,
		4: "\x04" + wantNumber(r.Day) + wantLabel(r.Label) + id,
		5: "\x05" + id,
	}[r.Kind]), api.OK
}

// wantAhead is a row's item with an Id of 1, without that at its end.
func wantAhead(r Row) ([]byte, api.Errno) {
	r.Id = 1
	b, e := wantMake(r)
	if e != api.OK || r.Kind == 2 {
		return nil, api.ErrRow
	}
	return b[:len(b)-4], api.OK
}

// wantAll is the items of all rows of a series, held in a set, and sorted.
func wantAll(l []api.Label, id int, days []int) ([][]byte, api.Errno) {
	rows := []Row{{Kind: 1, Labels: l, Id: id}, {Kind: 2, Labels: l, Id: id}}
	for _, one := range l {
		rows = append(rows, Row{Kind: 3, Label: one, Id: id})
		for _, day := range days {
			rows = append(rows, Row{Kind: 4, Label: one, Day: day, Id: id})
		}
	}
	met := map[string]bool{}
	for _, r := range rows {
		b, e := wantMake(r)
		if e != api.OK {
			return nil, api.ErrRow
		}
		met[string(b)] = true
	}
	var out [][]byte
	for s := range met {
		out = append(out, []byte(s))
	}
	slices.SortFunc(out, bytes.Compare)
	return out, api.OK
}

// What an item is, as patterns of letters that stand for its bytes.
const (
	numberForm = `([\x{0}-\x{ff}]{4})`
	labelForm  = `([a-z0-9_]{1,12})\x{1}((?:[\x{3}-\x{ff}]|\x{2}[\x{3}-\x{5}]){1,16})\x{1}`
	labelsForm = `((?:` + labelForm + `){1,6})`
)

var (
	oneLabel = regexp.MustCompile(labelForm)
	forms    = []*regexp.Regexp{
		nil,
		regexp.MustCompile(`\A\x{1}` + labelsForm + `\x{0}` + numberForm + `\z`),
		regexp.MustCompile(`\A\x{2}` + numberForm + labelsForm + `\z`),
		regexp.MustCompile(`\A\x{3}` + labelForm + numberForm + `\z`),
		regexp.MustCompile(`\A\x{4}` + numberForm + labelForm + numberForm + `\z`),
		regexp.MustCompile(`\A\x{5}` + numberForm + `\z`),
	}
)

// letters are bytes as letters of the same numbers.
func letters(b []byte) string {
	l := make([]rune, len(b))
	for i, c := range b {
		l[i] = rune(c)
	}
	return string(l)
}

// fromLetters are such letters as bytes, in a text.
func fromLetters(s string) string {
	var b []byte
	for _, c := range s {
		b = append(b, byte(c))
	}
	return string(b)
}

// saidNumber is the number that four such letters say.
func saidNumber(s string) int { return int(binary.BigEndian.Uint32([]byte(fromLetters(s)))) }

// saidLabels are the labels that such letters say.
func saidLabels(s string) []api.Label {
	var l []api.Label
	for _, m := range oneLabel.FindAllStringSubmatch(s, -1) {
		l = append(l, saidLabel(m[1], m[2]))
	}
	return l
}

// saidLabel is the label that a name's letters and a value's say.
func saidLabel(name, value string) api.Label {
	return api.Label{Name: name, Value: unescapes.Replace(fromLetters(value))}
}

// wantParse is what an item says, by its pattern, if it is a row that may be, its labels in their order.
func wantParse(b []byte) (Row, api.Errno) {
	if len(b) == 0 || b[0] < 1 || b[0] > 5 {
		return Row{}, api.ErrRow
	}
	r := Row{Kind: int(b[0])}
	m := forms[r.Kind].FindStringSubmatch(letters(b))
	if m == nil {
		return Row{}, api.ErrRow
	}
	switch r.Kind {
	case 1:
		r.Labels, r.Id = saidLabels(m[1]), saidNumber(m[4])
	case 2:
		r.Id, r.Labels = saidNumber(m[1]), saidLabels(m[2])
	case 3:
		r.Label, r.Id = saidLabel(m[1], m[2]), saidNumber(m[3])
	case 4:
		r.Day, r.Label, r.Id = saidNumber(m[1]), saidLabel(m[2], m[3]), saidNumber(m[4])
	case 5:
		r.Id = saidNumber(m[1])
	}
	if own, _ := wantLabels(r.Labels); !wantMayBe(r) || !slices.Equal(own, r.Labels) {
		return Row{}, api.ErrRow
	}
	return r, api.OK
}

// wantCompare is the order of what two rows of one kind say: of each field of the kind's line, as they stand there.
func wantCompare(a, b Row) int {
	texts := func(l []api.Label) []string {
		own, _ := wantLabels(l)
		var out []string
		for _, one := range own {
			out = append(out, one.Name, one.Value)
		}
		return out
	}
	labels := slices.Compare(texts(a.Labels), texts(b.Labels))
	label := cmp.Or(cmp.Compare(a.Label.Name, b.Label.Name), cmp.Compare(a.Label.Value, b.Label.Value))
	day, id := cmp.Compare(a.Day, b.Day), cmp.Compare(a.Id, b.Id)
	return map[int]int{1: cmp.Or(labels, id), 2: cmp.Or(id, labels), 3: cmp.Or(label, id), 4: cmp.Or(day, label, id), 5: id}[a.Kind]
}

// Held against the model.

// rowIs holds all that is made of a row against the model.
func rowIs(t *testing.T, r Row) {
	t.Helper()
	item, e := Make(r)
	if want, wantE := wantMake(r); !bytes.Equal(item, want) || e != wantE {
		t.Fatalf("Make(%#v) = %q, %v, want %q, %v", r, item, e, want, wantE)
	}
	ahead, aheadE := Ahead(r)
	if want, wantE := wantAhead(r); !bytes.Equal(ahead, want) || aheadE != wantE {
		t.Fatalf("Ahead(%#v) = %q, %v, want %q, %v", r, ahead, aheadE, want, wantE)
	}
	if e != api.OK {
		return
	}
	want := r
	want.Labels, _ = wantLabels(r.Labels)
	if got, e := Parse(item); !same(got, want) || e != api.OK {
		t.Fatalf("Parse(%q) = %#v, %v, want %#v", item, got, e, want)
	}
	bytesAre(t, item)
}

// refused holds that a row may not be, whatever its Id.
func refused(t *testing.T, r Row) {
	t.Helper()
	if item, e := Make(r); len(item) != 0 || e != api.ErrRow {
		t.Errorf("Make(%#v) = %q, %v", r, item, e)
	}
	if ahead, e := Ahead(r); len(ahead) != 0 || e != api.ErrRow {
		t.Errorf("Ahead(%#v) = %q, %v", r, ahead, e)
	}
	rowIs(t, r)
}

// bytesAre holds what bytes say against the model, and tells whether they are an item.
func bytesAre(t *testing.T, b []byte) bool {
	t.Helper()
	got, e := Parse(b)
	if want, wantE := wantParse(b); !same(got, want) || e != wantE {
		t.Fatalf("Parse(%q) = %#v, %v, want %#v, %v", b, got, e, want, wantE)
	}
	return e == api.OK
}

// noItem holds that bytes are none.
func noItem(t *testing.T, s string) {
	t.Helper()
	if got, e := Parse([]byte(s)); !same(got, Row{}) || e != api.ErrRow {
		t.Errorf("Parse(%q) = %#v, %v", s, got, e)
	}
	bytesAre(t, []byte(s))
}

// allAre holds All against the model.
func allAre(t *testing.T, l []api.Label, id int, days []int) {
	t.Helper()
	got, e := All(l, id, days)
	if want, wantE := wantAll(l, id, days); !sameItems(got, want) || e != wantE {
		t.Fatalf("All(%q, %d, %d) = %q, %v, want %q, %v", l, id, days, got, e, want, wantE)
	}
}

// What is asked of.

// kinds are a row of each kind, with what it names alone.
func kinds(l []api.Label, label api.Label, day, id int) []Row {
	return []Row{
		{Kind: Series, Labels: l, Id: id},
		{Kind: Number, Labels: l, Id: id},
		{Kind: Tag, Label: label, Id: id},
		{Kind: Daily, Label: label, Day: day, Id: id},
		{Kind: Gone, Id: id},
	}
}

// someKinds are likewise, of labels that need to be put in order, and of bytes that need to be escaped.
func someKinds() []Row {
	return kinds(labelsOf("job", "x", "a", "\x00"), api.Label{Name: "job", Value: "x\x01"}, 3, 258)
}

// sixLabels are as many as may be, some as long as may be.
func sixLabels() []api.Label {
	return labelsOf("job", "x", "a", "\x00\x01\x02\x03", "abcdefghijkl", strings.Repeat("\x02", 16), "_", "\xff\x80\x00", "0", "\x80", "a_0", strings.Repeat("\xff", 16))
}

// idsThatMayBe have each of their bytes change.
func idsThatMayBe() []int {
	return []int{1, 2, 3, 127, 128, 255, 256, 257, 258, 65535, 65536, 0x010203, 1<<24 - 1, 1 << 24, 0x12345678, lastId - 1, lastId}
}

func idsThatMayNotBe() []int {
	return []int{0, -1, -2, -256, lastId + 1, lastId + 256, 1<<31 - 1, 1 << 31, 1<<32 - 1, 1 << 32, 1<<32 + 1, -1 << 31, -1<<32 + 1, math.MinInt, math.MaxInt}
}

func daysThatMayBe() []int {
	return []int{0, 1, 2, 3, 127, 128, 255, 256, 65535, 65536, 0x010203, 1 << 24, lastId, lastId + 1, 0x7fffff00, lastDay - 1, lastDay}
}

func daysThatMayNotBe() []int {
	return []int{-1, -2, -256, lastDay + 1, 1<<31 + 1, 1<<32 - 1, 1 << 32, 1<<32 + 1, -1 << 31, -1 << 32, math.MinInt, math.MaxInt}
}

func kindsThatMayNotBe() []int {
	return []int{0, 6, 7, -1, -2, -5, 128, 255, 256, 257, 258, 259, 260, 261, -251, -255, 1<<32 + 1, 1<<32 + 5, math.MinInt, math.MaxInt}
}

// valuesThatMayBe are of the bytes that are escaped, and of others.
func valuesThatMayBe() []string {
	l := []string{"x", "xy", "\x00\x00", "\x00\x01", "\x01\x00", "\x02\x03", "\x02\x04", "\x02\x05", "\x03\x02", "x\x00", "x\x01", "x\x02", "x\x03", "0123456789abcdef"}
	for _, c := range []string{"\x00", "\x01", "\x02", "\x03", "\x80", "\xff"} {
		l = append(l, c, c+"x", "x"+c+"y", strings.Repeat(c, 15), strings.Repeat(c, 16))
	}
	return l
}

// labelThatMayBe tells labels one by one that may be.
func labelThatMayBe() []api.Label {
	var l []api.Label
	for _, name := range []string{"a", "job", "_", "0", "a_0", "abcdefghijkl", "____________"} {
		for _, value := range valuesThatMayBe() {
			l = append(l, api.Label{Name: name, Value: value})
		}
	}
	return l
}

// labelThatMayNotBe tells labels that have each something that may not be.
func labelThatMayNotBe() []api.Label {
	l := labelsOf("", "x", "a", "", "abcdefghijklm", "x", "a", "0123456789abcdefg", "a", strings.Repeat("\x00", 17), "A", "x", "a-b", "x", "a b", "x", "é", "x", "a\x01b", "x", "a\n", "x")
	for _, c := range []string{"\x00", "\x01", "\x02", "\x03", "\x80", "\xff", " ", "/", ":", "`", "{", "Z"} {
		l = append(l, labelsOf(c, "x", c+"a", "x", "a"+c, "x")...)
	}
	return l
}

// labelsThatMayBe are rows of one to six labels.
func labelsThatMayBe() [][]api.Label {
	var l [][]api.Label
	for _, one := range labelThatMayBe() {
		l = append(l, []api.Label{one})
	}
	for n := range 6 {
		l = append(l, sixLabels()[:n+1], sixLabels()[n:])
	}
	return append(l, labelsOf("job", "x", "a", "\x01"), labelsOf("a", "\x01", "job", "x"), labelsOf("b", "x", "a", "x"), labelsOf("ab", "x", "a", "x", "b", "\x00"))
}

// labelsThatMayNotBe are too few, too many, some of one name, and those of which one may not be.
func labelsThatMayNotBe() [][]api.Label {
	l := [][]api.Label{
		nil, {}, make([]api.Label, 1), make([]api.Label, 6), append(sixLabels(), api.Label{Name: "b", Value: "x"}), slices.Concat(sixLabels(), sixLabels()),
		labelsOf("a", "x", "a", "x"), labelsOf("a", "x", "a", "y"), labelsOf("a", "y", "b", "x", "a", "x"), labelsOf("b", "x", "a", "x", "b", "y"),
	}
	for _, one := range labelThatMayNotBe() {
		l = append(l, []api.Label{one}, append(labelsOf("job", "x"), one), append([]api.Label{one}, sixLabels()[:3]...))
	}
	return l
}

// inAllOrders tells the orders that a list may come in.
func inAllOrders[T any](l []T, tell func([]T)) {
	if len(l) == 0 {
		tell(nil)
		return
	}
	for i := range l {
		inAllOrders(slices.Concat(l[:i], l[i+1:]), func(rest []T) { tell(append([]T{l[i]}, rest...)) })
	}
}

// P12.1: Make

func TestKindsHaveTheirNumbers(t *testing.T) {
	if got := []int{Series, Number, Tag, Daily, Gone}; !slices.Equal(got, []int{1, 2, 3, 4, 5}) {
		t.Error(got)
	}
}

func TestItemsOfSomeRows(t *testing.T) {
	job, l := api.Label{Name: "job", Value: "x"}, labelsOf("job", "x", "a", "\x01")
	for _, c := range []struct {
		r    Row
		want string
	}{
		{Row{Kind: Tag, Label: job, Id: 7}, "\x03job\x01x\x01\x00\x00\x00\x07"},
		{Row{Kind: Series, Labels: l, Id: 0x01020304}, "\x01a\x01\x02\x04\x01job\x01x\x01\x00\x01\x02\x03\x04"},
		{Row{Kind: Number, Labels: l, Id: 0x01020304}, "\x02\x01\x02\x03\x04a\x01\x02\x04\x01job\x01x\x01"},
		{Row{Kind: Tag, Label: l[1], Id: 0x01020304}, "\x03a\x01\x02\x04\x01\x01\x02\x03\x04"},
		{Row{Kind: Daily, Label: job, Day: 0x7ffefdfc, Id: 258}, "\x04\x7f\xfe\xfd\xfcjob\x01x\x01\x00\x00\x01\x02"},
		{Row{Kind: Daily, Label: job, Id: 1}, "\x04\x00\x00\x00\x00job\x01x\x01\x00\x00\x00\x01"},
		{Row{Kind: Daily, Label: l[1], Day: lastDay, Id: lastId}, "\x04\x7f\xff\xff\xffa\x01\x02\x04\x01\x40\x00\x00\x00"},
		{Row{Kind: Gone, Id: 1}, "\x05\x00\x00\x00\x01"},
		{Row{Kind: Gone, Id: lastId}, "\x05\x40\x00\x00\x00"},
		{Row{Kind: Series, Labels: labelsOf("a", "\x00\x01\x02\x03\x80\xff"), Id: 1}, "\x01a\x01\x02\x03\x02\x04\x02\x05\x03\x80\xff\x01\x00\x00\x00\x00\x01"},
	} {
		if got, e := Make(c.r); string(got) != c.want || e != api.OK {
			t.Errorf("Make(%#v) = %q, %v, want %q", c.r, got, e, c.want)
		}
		rowIs(t, c.r)
	}
}

func TestIdsAreFromOneToTheGreatest(t *testing.T) {
	for _, id := range idsThatMayBe() {
		for _, r := range someKinds() {
			r.Id = id
			if _, e := Make(r); e != api.OK {
				t.Errorf("Make(%#v): %v", r, e)
			}
			rowIs(t, r)
		}
	}
	for _, id := range idsThatMayNotBe() {
		for _, r := range someKinds() {
			r.Id = id
			if item, e := Make(r); len(item) != 0 || e != api.ErrRow {
				t.Errorf("Make(%#v) = %q, %v", r, item, e)
			}
			rowIs(t, r)
		}
	}
}

func TestDaysAreFromZeroToTheGreatest(t *testing.T) {
	for _, day := range daysThatMayBe() {
		r := Row{Kind: Daily, Label: api.Label{Name: "job", Value: "x"}, Day: day, Id: 7}
		if _, e := Make(r); e != api.OK {
			t.Errorf("Make(%#v): %v", r, e)
		}
		rowIs(t, r)
	}
	for _, day := range daysThatMayNotBe() {
		refused(t, Row{Kind: Daily, Label: api.Label{Name: "job", Value: "x"}, Day: day, Id: 7})
	}
}

func TestKindsThatMayNotBe(t *testing.T) {
	for _, kind := range kindsThatMayNotBe() {
		for _, r := range someKinds() {
			r.Kind = kind
			refused(t, r)
		}
		refused(t, Row{Kind: kind})
		refused(t, Row{Kind: kind, Id: 1})
		refused(t, Row{Kind: kind, Labels: labelsOf("a", "x"), Label: api.Label{Name: "a", Value: "x"}, Day: 1, Id: 1})
	}
	refused(t, Row{})
}

func TestARowHasWhatItsKindNamesAlone(t *testing.T) {
	for _, r := range someKinds() {
		if r.Kind != Series && r.Kind != Number {
			for _, l := range slices.Concat(labelsThatMayBe()[:50], labelsThatMayNotBe()) {
				if wrong := r; len(l) > 0 {
					wrong.Labels = l
					refused(t, wrong)
				}
			}
			for _, none := range [][]api.Label{nil, {}, make([]api.Label, 0, 3), sixLabels()[:0]} {
				r.Labels = none
				if _, e := Make(r); e != api.OK {
					t.Errorf("Make(%#v): %v", r, e)
				}
				rowIs(t, r)
			}
		}
		if r.Kind != Tag && r.Kind != Daily {
			for _, one := range append(labelsOf("a", "x", "", "x", "a", "", "", "\x00", "\x00", ""), labelThatMayNotBe()...) {
				wrong := r
				wrong.Label = one
				refused(t, wrong)
			}
		}
		if r.Kind != Daily {
			for _, day := range slices.Concat(daysThatMayBe()[1:], daysThatMayNotBe()) {
				wrong := r
				wrong.Day = day
				refused(t, wrong)
			}
		}
	}
}

func TestARowHasAllThatItsKindNames(t *testing.T) {
	for _, r := range []Row{
		{Kind: Series}, {Kind: Number}, {Kind: Tag}, {Kind: Daily}, {Kind: Daily, Day: 1},
		{Kind: Series, Labels: []api.Label{}}, {Kind: Number, Labels: []api.Label{}},
		{Kind: Series, Label: api.Label{Name: "a", Value: "x"}}, {Kind: Number, Label: api.Label{Name: "a", Value: "x"}},
		{Kind: Tag, Labels: labelsOf("a", "x")}, {Kind: Daily, Labels: labelsOf("a", "x")},
	} {
		r.Id = 1
		refused(t, r)
	}
}

func TestLabelsThatMayBe(t *testing.T) {
	for _, l := range labelsThatMayBe() {
		for _, r := range kinds(l, l[0], 3, 258) {
			if _, e := Make(r); e != api.OK {
				t.Errorf("Make(%#v): %v", r, e)
			}
			rowIs(t, r)
		}
	}
}

func TestLabelsThatMayNotBe(t *testing.T) {
	for _, l := range labelsThatMayNotBe() {
		refused(t, Row{Kind: Series, Labels: l, Id: 1})
		refused(t, Row{Kind: Number, Labels: l, Id: 1})
	}
	for _, one := range labelThatMayNotBe() {
		refused(t, Row{Kind: Tag, Label: one, Id: 1})
		refused(t, Row{Kind: Daily, Label: one, Id: 1})
	}
}

func TestEachByteOfNamesAndValues(t *testing.T) {
	for c := range 256 {
		one := string([]byte{byte(c)})
		for _, label := range labelsOf(one, "x", "a"+one, "x", one+"a", "x", "a", one, "a", "x"+one+"y", "a", strings.Repeat(one, 16)) {
			for _, r := range kinds([]api.Label{{Name: "job", Value: "x"}, label}, label, 3, 258) {
				rowIs(t, r)
			}
		}
	}
}

func TestLabelsComeInAnyOrder(t *testing.T) {
	six := sixLabels()
	for n := 1; n <= 6; n++ {
		for _, kind := range []int{Series, Number} {
			want, _ := wantMake(Row{Kind: kind, Labels: six[:n], Id: 258})
			ordered, _ := wantLabels(six[:n])
			inAllOrders(six[:n], func(l []api.Label) {
				r := Row{Kind: kind, Labels: l, Id: 258}
				got, e := Make(r)
				if !bytes.Equal(got, want) || e != api.OK {
					t.Fatalf("Make(%#v) = %q, %v, want %q", r, got, e, want)
				}
				if back, e := Parse(got); !slices.Equal(back.Labels, ordered) || e != api.OK {
					t.Fatalf("Parse(%q) = %#v, %v", got, back, e)
				}
			})
		}
	}
}

func TestTheLongestItems(t *testing.T) {
	var l []api.Label
	for _, c := range "abcdef" {
		l = append(l, api.Label{Name: strings.Repeat(string(c), 12), Value: strings.Repeat("\x01", 16)})
	}
	for i, want := range []int{282, 281, 51, 55, 5} {
		item, e := Make(kinds(l, l[0], lastDay, lastId)[i])
		if len(item) != want || len(item) > api.MaxItem || e != api.OK {
			t.Errorf("%d: %d bytes, %v", i+1, len(item), e)
		}
	}
	for _, r := range kinds(l, l[0], lastDay, lastId) {
		rowIs(t, r)
	}
}

// P12.1: Parse

// someItems are items of each kind, short and long ones.
func someItems(t *testing.T) [][]byte {
	t.Helper()
	var out [][]byte
	for _, r := range slices.Concat(
		someKinds(),
		kinds(labelsOf("a", "x"), api.Label{Name: "a", Value: "x"}, 0, 1),
		kinds(sixLabels(), sixLabels()[2], lastDay, lastId),
		kinds(labelsOf("a", "\x00\x01\x02\x80\xff"), api.Label{Name: "_", Value: "\x02\x02"}, 0x01000200, 0x01020001),
	) {
		item, e := Make(r)
		if e != api.OK {
			t.Fatalf("Make(%#v): %v", r, e)
		}
		out = append(out, item)
	}
	return out
}

func TestParseOfSomeItems(t *testing.T) {
	job := api.Label{Name: "job", Value: "x"}
	for _, c := range []struct {
		item string
		want Row
	}{
		{"\x03job\x01x\x01\x00\x00\x00\x07", Row{Kind: Tag, Label: job, Id: 7}},
		{"\x01a\x01\x02\x04\x01job\x01x\x01\x00\x01\x02\x03\x04", Row{Kind: Series, Labels: labelsOf("a", "\x01", "job", "x"), Id: 0x01020304}},
		{"\x02\x01\x02\x03\x04a\x01\x02\x04\x01job\x01x\x01", Row{Kind: Number, Labels: labelsOf("a", "\x01", "job", "x"), Id: 0x01020304}},
		{"\x04\x7f\xff\xff\xffjob\x01x\x01\x40\x00\x00\x00", Row{Kind: Daily, Label: job, Day: lastDay, Id: lastId}},
		{"\x04\x00\x00\x00\x00job\x01x\x01\x00\x00\x00\x01", Row{Kind: Daily, Label: job, Id: 1}},
		{"\x05\x00\x01\x00\x00", Row{Kind: Gone, Id: 65536}},
	} {
		if got, e := Parse([]byte(c.item)); !same(got, c.want) || e != api.OK {
			t.Errorf("Parse(%q) = %#v, %v, want %#v", c.item, got, e, c.want)
		}
		bytesAre(t, []byte(c.item))
	}
}

func TestParseOfNoItems(t *testing.T) {
	if got, e := Parse(nil); !same(got, Row{}) || e != api.ErrRow {
		t.Errorf("Parse(nil) = %#v, %v", got, e)
	}
	for _, s := range []string{
		"", "\x00", "\x01", "\x02", "\x03", "\x04", "\x05", "\x06", "\xff", "\x00\x00\x00\x00\x01", "\x06\x00\x00\x00\x01", "\xff\x00\x00\x00\x01",
		// an Id that may not be
		"\x05\x00\x00\x00\x00", "\x05\x40\x00\x00\x01", "\x05\x80\x00\x00\x00", "\x05\x80\x00\x00\x01", "\x05\xff\xff\xff\xff", "\x05\x7f\xff\xff\xff",
		"\x03a\x01x\x01\x00\x00\x00\x00", "\x03a\x01x\x01\x40\x00\x00\x01", "\x03a\x01x\x01\xff\xff\xff\xff",
		"\x04\x00\x00\x00\x00a\x01x\x01\x00\x00\x00\x00", "\x04\x00\x00\x00\x00a\x01x\x01\x40\x00\x00\x01",
		"\x01a\x01x\x01\x00\x00\x00\x00\x00", "\x01a\x01x\x01\x00\x40\x00\x00\x01", "\x02\x00\x00\x00\x00a\x01x\x01", "\x02\x40\x00\x00\x01a\x01x\x01",
		// a Day that may not be
		"\x04\x80\x00\x00\x00a\x01x\x01\x00\x00\x00\x01", "\x04\xff\xff\xff\xffa\x01x\x01\x00\x00\x00\x01", "\x04\x80\x00\x00\x01a\x01x\x01\x00\x00\x00\x01",
		// no labels, or a label too many
		"\x01\x00\x00\x00\x00\x01", "\x01\x00\x00\x00\x01", "\x02\x00\x00\x00\x01", "\x03\x00\x00\x00\x01", "\x04\x00\x00\x00\x00\x00\x00\x00\x01",
		"\x03a\x01x\x01b\x01x\x01\x00\x00\x00\x01", "\x04\x00\x00\x00\x00a\x01x\x01b\x01x\x01\x00\x00\x00\x01", "\x05a\x01x\x01\x00\x00\x00\x01",
		// another byte than 0 behind Series' labels, none, or two of them
		"\x01a\x01x\x01\x00\x00\x00\x01", "\x01a\x01x\x01\x01\x00\x00\x00\x01", "\x01a\x01x\x01\x02\x00\x00\x00\x01", "\x01a\x01x\x01\x00\x00\x00\x00\x01\x00", "\x01a\x01x\x01\x00\x00\x00\x00\x00\x01",
		"\x01a\x01x\x01\x00", "\x01a\x01x\x01",
		// a 0 behind other kinds' labels
		"\x02\x00\x00\x00\x01a\x01x\x01\x00", "\x03a\x01x\x01\x00\x00\x00\x00\x01", "\x04\x00\x00\x00\x00a\x01x\x01\x00\x00\x00\x00\x01",
		// labels in another order, or twice
		"\x01job\x01x\x01a\x01x\x01\x00\x00\x00\x00\x01", "\x02\x00\x00\x00\x01job\x01x\x01a\x01x\x01", "\x01a\x01x\x01a\x01x\x01\x00\x00\x00\x00\x01", "\x02\x00\x00\x00\x01a\x01x\x01a\x01x\x01",
		"\x01a\x01x\x01a\x01y\x01\x00\x00\x00\x00\x01", "\x02\x00\x00\x00\x01a\x01x\x01a\x01y\x01", "\x01ab\x01x\x01a\x01x\x01\x00\x00\x00\x00\x01", "\x02\x00\x00\x00\x01a\x01x\x01c\x01x\x01b\x01x\x01",
		// labels that may not be
		"\x03A\x01x\x01\x00\x00\x00\x01", "\x03\x01x\x01\x00\x00\x00\x01", "\x03a\x01\x01\x00\x00\x00\x01", "\x03abcdefghijklm\x01x\x01\x00\x00\x00\x01", "\x03a\x010123456789abcdefg\x01\x00\x00\x00\x01",
		"\x03a\x01\x02\x06\x01\x00\x00\x00\x01", "\x03a\x01\x02\x02\x01\x00\x00\x00\x01", "\x03a\x01\x00\x01\x00\x00\x00\x01", "\x03\x02\x03\x01x\x01\x00\x00\x00\x01",
		"\x01a\x01\x01\x00\x00\x00\x00\x01", "\x01\x01x\x01\x00\x00\x00\x00\x01", "\x01a\x01x\x00\x00\x00\x00\x01", "\x01a\x01\x00\x00\x00\x00\x01", "\x02\x00\x00\x00\x01a\x01x", "\x02\x00\x00\x00\x01a\x01x\x01b\x01",
		// one kind's bytes under another one
		"\x02a\x01x\x01\x00\x00\x00\x00\x01", "\x01\x00\x00\x00\x01a\x01x\x01", "\x04a\x01x\x01\x00\x00\x00\x01", "\x03\x00\x00\x00\x00a\x01x\x01\x00\x00\x00\x01",
	} {
		noItem(t, s)
	}
}

func TestParseOfIdsAndDays(t *testing.T) {
	behind := "a\x01x\x01"
	for first := range 256 {
		for _, rest := range []string{"\x00\x00\x00", "\x00\x00\x01", "\x00\x01\x00", "\x01\x00\x00", "\xff\xff\xff"} {
			n := string([]byte{byte(first)}) + rest
			for _, s := range []string{"\x05" + n, "\x03" + behind + n, "\x01" + behind + "\x00" + n, "\x02" + n + behind, "\x04\x00\x00\x00\x00" + behind + n, "\x04" + n + behind + "\x00\x00\x00\x01"} {
				bytesAre(t, []byte(s))
			}
		}
	}
}

func TestParseOfItemsWithAByteCutPutInOrChanged(t *testing.T) {
	for _, item := range someItems(t) {
		if !bytesAre(t, item) {
			t.Fatalf("%q is none", item)
		}
		for i := range item {
			bytesAre(t, item[:i])
			bytesAre(t, item[i+1:])
			bytesAre(t, slices.Concat(item[:i], item[i+1:]))
			for _, c := range []byte{0, 1, 2, 3, 4, 5, 6, 'a', 'b', 'j', 'z', 'A', 64, 65, 127, 128, 255} {
				bytesAre(t, slices.Concat(item[:i], []byte{c}, item[i:]))
				bytesAre(t, slices.Concat(item[:i], []byte{c}, item[i+1:]))
			}
		}
		for c := range 256 {
			noItem(t, string(item)+string([]byte{byte(c)}))
			bytesAre(t, append([]byte{byte(c)}, item...))
			bytesAre(t, append([]byte{byte(c)}, item[1:]...))
		}
		noItem(t, string(item)+string(item))
	}
}

func TestParseOfTwoItemsMixed(t *testing.T) {
	l := someItems(t)
	for _, a := range l {
		for _, b := range l {
			for i := 0; i < len(a); i += 3 {
				bytesAre(t, slices.Concat(a[:i], b[min(i, len(b)):]))
				bytesAre(t, slices.Concat(a[:i], b[max(len(b)-i, 0):]))
			}
		}
	}
}

func TestParseOfBytesDrawn(t *testing.T) {
	r := rand.New(rand.NewSource(121))
	pieces := []string{"\x00", "\x01", "\x02", "\x03", "\x04", "\x05", "\x40", "\x7f", "\x80", "\xff", "a", "b", "job", "a\x01x\x01", "b\x01\x02\x03\x01", "c\x01\xff\x01", "\x00\x00\x00\x01", "\x00\x00\x00\x00", "\x00\x00\x00", "\x40\x00\x00\x00"}
	well := 0
	for range 40000 {
		b := []byte{byte(r.Intn(6))}
		for range r.Intn(7) {
			b = append(b, pieces[r.Intn(len(pieces))]...)
		}
		if bytesAre(t, b) {
			well++
		}
		free := make([]byte, r.Intn(12))
		r.Read(free)
		bytesAre(t, free)
	}
	if well < 200 {
		t.Errorf("only %d of the bytes drawn are items", well)
	}
}

func TestParseEndsForManyBytes(t *testing.T) {
	for kind := range 7 {
		for _, piece := range []string{"\x00", "\x01", "\x02", "a", "a\x01x\x01", "\x02\x03", "\xff", string([]byte{byte(kind)})} {
			b := append([]byte{byte(kind)}, bytes.Repeat([]byte(piece), 1<<18)...)
			if got, e := Parse(b); !same(got, Row{}) || e != api.ErrRow {
				t.Errorf("Parse of %d and many %q = %v", kind, piece, e)
			}
		}
	}
}

// P12.2

func TestAheadOfSomeRows(t *testing.T) {
	job, l := api.Label{Name: "job", Value: "x"}, labelsOf("job", "x", "a", "\x01")
	for _, c := range []struct {
		r    Row
		want string
	}{
		{Row{Kind: Tag, Label: job, Id: 7}, "\x03job\x01x\x01"},
		{Row{Kind: Tag, Label: l[1]}, "\x03a\x01\x02\x04\x01"},
		{Row{Kind: Series, Labels: l, Id: 258}, "\x01a\x01\x02\x04\x01job\x01x\x01\x00"},
		{Row{Kind: Series, Labels: l, Id: -1}, "\x01a\x01\x02\x04\x01job\x01x\x01\x00"},
		{Row{Kind: Daily, Label: job, Day: 258, Id: 7}, "\x04\x00\x00\x01\x02job\x01x\x01"},
		{Row{Kind: Daily, Label: job, Day: lastDay}, "\x04\x7f\xff\xff\xffjob\x01x\x01"},
		{Row{Kind: Gone, Id: 7}, "\x05"},
		{Row{Kind: Gone}, "\x05"},
	} {
		if got, e := Ahead(c.r); string(got) != c.want || e != api.OK {
			t.Errorf("Ahead(%#v) = %q, %v, want %q", c.r, got, e, c.want)
		}
		rowIs(t, c.r)
	}
}

func TestAheadIsAskedWithAnIdOfOne(t *testing.T) {
	for _, r := range someKinds() {
		r.Id = 1
		want, wantE := Ahead(r)
		if is := r.Kind != Number; is != (wantE == api.OK) || is != (len(want) > 0) {
			t.Errorf("Ahead(%#v) = %q, %v", r, want, wantE)
		}
		for _, id := range slices.Concat(idsThatMayBe(), idsThatMayNotBe()) {
			r.Id = id
			if got, e := Ahead(r); !bytes.Equal(got, want) || e != wantE {
				t.Errorf("Ahead(%#v) = %q, %v, want %q, %v", r, got, e, want, wantE)
			}
		}
	}
}

func TestNothingIsAheadOfNumber(t *testing.T) {
	for _, l := range slices.Concat(labelsThatMayBe(), labelsThatMayNotBe()) {
		for _, id := range []int{0, 1, 258, lastId, lastId + 1} {
			if got, e := Ahead(Row{Kind: Number, Labels: l, Id: id}); len(got) != 0 || e != api.ErrRow {
				t.Errorf("Ahead of Number of %q, %d = %q, %v", l, id, got, e)
			}
		}
	}
}

func TestItemsOfEachIdHaveTheSameAhead(t *testing.T) {
	for _, l := range labelsThatMayBe() {
		for _, r := range kinds(l, l[0], 258, 0) {
			if r.Kind == Number {
				continue
			}
			ahead, e := Ahead(r)
			if e != api.OK {
				t.Fatalf("Ahead(%#v): %v", r, e)
			}
			for _, id := range idsThatMayBe() {
				r.Id = id
				item, _ := Make(r)
				if !bytes.HasPrefix(item, ahead) || string(item[len(ahead):]) != wantNumber(id) {
					t.Fatalf("Make(%#v) = %q, Ahead %q", r, item, ahead)
				}
			}
		}
	}
}

// P12.3

func TestAllOfASeries(t *testing.T) {
	l := labelsOf("job", "x", "a", "\x01")
	want := []string{
		"\x01a\x01\x02\x04\x01job\x01x\x01\x00\x00\x00\x00\x07",
		"\x02\x00\x00\x00\x07a\x01\x02\x04\x01job\x01x\x01",
		"\x03a\x01\x02\x04\x01\x00\x00\x00\x07",
		"\x03job\x01x\x01\x00\x00\x00\x07",
		"\x04\x00\x00\x00\x01a\x01\x02\x04\x01\x00\x00\x00\x07",
		"\x04\x00\x00\x00\x01job\x01x\x01\x00\x00\x00\x07",
		"\x04\x00\x00\x00\x02a\x01\x02\x04\x01\x00\x00\x00\x07",
		"\x04\x00\x00\x00\x02job\x01x\x01\x00\x00\x00\x07",
	}
	for _, c := range []struct {
		days []int
		want []string
	}{
		{nil, want[:4]}, {[]int{}, want[:4]}, {[]int{1}, want[:6]}, {[]int{1, 1, 1}, want[:6]},
		{[]int{1, 2}, want}, {[]int{2, 1}, want}, {[]int{2, 1, 2, 2, 1}, want},
	} {
		inAllOrders(l, func(l []api.Label) {
			got, e := All(l, 7, c.days)
			if e != api.OK || len(got) != len(c.want) {
				t.Fatalf("All(%q, 7, %d) = %q, %v", l, c.days, got, e)
			}
			for i, item := range got {
				if string(item) != c.want[i] {
					t.Errorf("All(%q, 7, %d): at %d %q, want %q", l, c.days, i, item, c.want[i])
				}
			}
			allAre(t, l, 7, c.days)
		})
	}
}

func TestAllOfDays(t *testing.T) {
	falling := slices.Clone(daysThatMayBe())
	slices.Reverse(falling)
	for _, l := range [][]api.Label{labelsOf("a", "x"), labelsOf("b", "\x00", "a", "x"), sixLabels()} {
		for _, days := range [][]int{
			nil, {}, {0}, {lastDay}, {0, lastDay}, {lastDay, 0}, {3, 3}, {3, 2, 1}, {3, 1, 2, 3, 1, 0}, {256, 1, 65536, 255}, daysThatMayBe(), falling, slices.Concat(falling, daysThatMayBe()),
		} {
			allAre(t, l, 7, days)
			allAre(t, l, lastId, days)
			each := map[int]bool{}
			for _, day := range days {
				each[day] = true
			}
			if got, e := All(l, 1, days); len(got) != 2+len(l)*(1+len(each)) || e != api.OK {
				t.Errorf("All(%q, 1, %d): %d items, %v", l, days, len(got), e)
			}
		}
	}
}

func TestAllRisesEachOnce(t *testing.T) {
	for _, l := range labelsThatMayBe() {
		got, e := All(l, 258, []int{9, 3, 256, 3, 9})
		if e != api.OK {
			t.Fatalf("All of %q: %v", l, e)
		}
		for i := 1; i < len(got); i++ {
			if bytes.Compare(got[i-1], got[i]) >= 0 {
				t.Errorf("All of %q: %q ahead of %q", l, got[i-1], got[i])
			}
		}
		allAre(t, l, 258, []int{9, 3, 256, 3, 9})
	}
}

// noneOf holds that there are no items of what may not be.
func noneOf(t *testing.T, l []api.Label, id int, days []int) {
	t.Helper()
	if got, e := All(l, id, days); len(got) != 0 || e != api.ErrRow {
		t.Errorf("All(%q, %d, %d) = %q, %v", l, id, days, got, e)
	}
	allAre(t, l, id, days)
}

func TestAllOfWhatMayNotBe(t *testing.T) {
	for _, l := range labelsThatMayNotBe() {
		noneOf(t, l, 7, nil)
		noneOf(t, l, 7, []int{1})
		noneOf(t, l, 0, []int{-1})
	}
	for _, l := range [][]api.Label{labelsOf("a", "x"), sixLabels()} {
		for _, id := range idsThatMayNotBe() {
			noneOf(t, l, id, nil)
			noneOf(t, l, id, []int{1, 2})
		}
		for _, day := range daysThatMayNotBe() {
			noneOf(t, l, 7, []int{day})
			noneOf(t, l, 7, []int{day, 1, 2})
			noneOf(t, l, 7, []int{1, day, 2})
			noneOf(t, l, 7, []int{1, 2, day})
		}
		for _, id := range idsThatMayBe() {
			allAre(t, l, id, []int{2, 1})
		}
	}
}

func TestAllEndsForManyLabelsAndDays(t *testing.T) {
	many := make([]api.Label, 1<<18)
	days := make([]int, 1<<18)
	for i := range many {
		many[i] = api.Label{Name: string(rune('a' + i%26)), Value: "x"}
		days[i] = len(days) - i
	}
	noMore := func(l []api.Label, days []int, want int, wantE api.Errno) {
		t.Helper()
		if got, e := All(l, 7, days); len(got) != want || e != wantE {
			t.Errorf("%d items, %v, want %d, %v", len(got), e, want, wantE)
		}
	}
	noMore(many, days, 0, api.ErrRow)
	noMore(many[:7], days, 0, api.ErrRow)
	noMore(many[:1], days[:1<<12], 3+1<<12, api.OK)
	noMore(sixLabels(), make([]int, 1<<18), 14, api.OK)
	noMore(sixLabels(), append(days, -1), 0, api.ErrRow)
}

// P12.4

// rowsToOrder are rows of each kind whose fields are near to each other.
func rowsToOrder() [][]Row {
	var l []api.Label
	for _, name := range []string{"0", "_", "a", "a0", "a_", "ab", "b"} {
		for _, value := range []string{"\x00", "\x00\x00", "\x01", "\x02", "\x02\x03", "\x03", "\x80", "\xff", "\xff\x00", "x", "x\x00", "x\x01", "x\x02", "x\x03", "xy"} {
			l = append(l, api.Label{Name: name, Value: value})
		}
	}
	series := [][]api.Label{sixLabels(), sixLabels()[:5], sixLabels()[1:]}
	for i, one := range l {
		series = append(series, []api.Label{one})
		if i%3 == 0 {
			series = append(series, labelsOf("c", "z", one.Name, one.Value), labelsOf("00", "\x00", one.Name, one.Value), labelsOf(one.Name, one.Value, "c", "\x00", "d", "z"))
		}
	}
	ids := []int{1, 2, 255, 256, 65535, 65536, 1 << 24, lastId}
	out := make([][]Row, 5)
	for _, id := range ids {
		for _, s := range series {
			if id < 256 || len(s) > 2 {
				out[0], out[1] = append(out[0], Row{Kind: Series, Labels: s, Id: id}), append(out[1], Row{Kind: Number, Labels: s, Id: id})
			}
		}
		for i, one := range l {
			if id < 256 || i%4 == 0 {
				out[2] = append(out[2], Row{Kind: Tag, Label: one, Id: id})
			}
			for _, day := range []int{0, 1, 255, 256, 1 << 16, 1 << 24, lastDay} {
				if (i+day%255+id)%8 == 0 {
					out[3] = append(out[3], Row{Kind: Daily, Label: one, Day: day, Id: id})
				}
			}
		}
	}
	for _, id := range idsThatMayBe() {
		out[4] = append(out[4], Row{Kind: Gone, Id: id})
	}
	return out
}

func TestItemsOfOneKindAreInTheOrderOfWhatTheySay(t *testing.T) {
	for _, rows := range rowsToOrder() {
		made := make([][]byte, len(rows))
		for i, r := range rows {
			var e api.Errno
			if made[i], e = Make(r); e != api.OK {
				t.Fatalf("Make(%#v): %v", r, e)
			}
			if want, _ := wantLabels(r.Labels); r.Labels != nil {
				rows[i].Labels = want
			}
		}
		for i, a := range rows {
			for j, b := range rows {
				if got, want := bytes.Compare(made[i], made[j]), wantCompare(a, b); got != want {
					t.Fatalf("%#v and %#v: items %d, what they say %d", a, b, got, want)
				}
			}
		}
	}
}

func TestItemsOfKindsAreInTheOrderOfKinds(t *testing.T) {
	l := someItems(t)
	for _, a := range l {
		for _, b := range l {
			if a[0] < b[0] && bytes.Compare(a, b) >= 0 {
				t.Errorf("%q isn't ahead of %q", a, b)
			}
		}
	}
}

func TestWhatIsMadeIsParsed(t *testing.T) {
	for _, rows := range rowsToOrder() {
		for _, r := range rows {
			rowIs(t, r)
		}
	}
	items, e := All(sixLabels(), 258, daysThatMayBe())
	if e != api.OK {
		t.Fatal(e)
	}
	for _, item := range items {
		r, e := Parse(item)
		again, againE := Make(r)
		if e != api.OK || againE != api.OK || !bytes.Equal(again, item) {
			t.Errorf("Parse(%q) = %#v, %v, made again %q, %v", item, r, e, again, againE)
		}
	}
}

// Drawn inputs.

// oneOf draws one thing out of a list.
func oneOf[T any](r *rand.Rand, l []T) T { return l[r.Intn(len(l))] }

// anyLabel is a label that may be, mostly.
func anyLabel(r *rand.Rand) api.Label {
	if r.Intn(25) == 0 {
		return oneOf(r, labelThatMayNotBe())
	}
	text := func(most int, of string) string {
		b := make([]byte, 1+r.Intn(1+r.Intn(most)))
		for i := range b {
			b[i] = of[r.Intn(len(of))]
		}
		return string(b)
	}
	return api.Label{Name: text(12, "ab_0"), Value: text(16, "\x00\x01\x02\x03x\x80\xff")}
}

// anyLabels are few labels, mostly, in any order.
func anyLabels(r *rand.Rand) []api.Label {
	var l []api.Label
	for range 1 + r.Intn(1+r.Intn(7)) {
		l = append(l, anyLabel(r))
	}
	return l
}

// anyId is an Id that may be, mostly.
func anyId(r *rand.Rand) int {
	switch r.Intn(12) {
	case 0:
		return oneOf(r, idsThatMayNotBe())
	case 1:
		return oneOf(r, idsThatMayBe())
	}
	return 1 + r.Intn(1<<r.Intn(31))
}

// anyDay is a day that may be, mostly.
func anyDay(r *rand.Rand) int {
	switch r.Intn(30) {
	case 0:
		return oneOf(r, daysThatMayNotBe())
	case 1:
		return oneOf(r, daysThatMayBe())
	}
	return r.Intn(1 << r.Intn(32))
}

// anyRow has what its kind names, mostly, and now and then something that it doesn't.
func anyRow(r *rand.Rand) Row {
	one := oneOf(r, kinds(anyLabels(r), anyLabel(r), anyDay(r), anyId(r)))
	switch r.Intn(16) {
	case 0:
		one.Kind = r.Intn(8) - 1
	case 1:
		one.Labels = anyLabels(r)[:r.Intn(2)]
	case 2:
		one.Label = anyLabel(r)
	case 3:
		one.Day = anyDay(r)
	}
	return one
}

func TestAnyRowsAreAsTheWordsSay(t *testing.T) {
	r := rand.New(rand.NewSource(122))
	met := map[int]int{}
	for range 30000 {
		one := anyRow(r)
		rowIs(t, one)
		if item, e := Make(one); e == api.OK {
			met[one.Kind]++
			i := r.Intn(len(item))
			item[i] = oneOf(r, []byte{0, 1, 2, 3, 'a', 'z', 255, item[i] + 1})
			bytesAre(t, item)
		}
	}
	for kind := Series; kind <= Gone; kind++ {
		if met[kind] < 1000 {
			t.Errorf("only %d rows of kind %d may be", met[kind], kind)
		}
	}
}

func TestAllOfAnySeriesIsAsTheWordsSay(t *testing.T) {
	r := rand.New(rand.NewSource(123))
	well := 0
	for range 8000 {
		l, id := anyLabels(r), anyId(r)
		var days []int
		for range r.Intn(6) {
			days = append(days, anyDay(r))
		}
		if len(days) > 0 && r.Intn(2) == 0 {
			days = append(days, days[r.Intn(len(days))])
		}
		allAre(t, l, id, days)
		if _, e := All(l, id, days); e == api.OK {
			well++
		}
	}
	if well < 2000 {
		t.Errorf("only %d series may be", well)
	}
}

// What holds for all calls.

// guarded is a copy of a list with room behind its end, and a check that neither is changed.
func guarded[T comparable](l []T, room T) ([]T, func() bool) {
	all := append(slices.Clone(l), room, room, room)
	before := slices.Clone(all)
	return all[:len(l)], func() bool { return slices.Equal(all, before) }
}

// scribble writes over a list, and over the room behind its end.
func scribble[T any](l []T, with T) {
	l = l[:cap(l)]
	for i := range l {
		l[i] = with
	}
}

func TestWhatIsHandedInIsNotChanged(t *testing.T) {
	room := api.Label{Name: "room", Value: "room"}
	for _, l := range slices.Concat(labelsThatMayBe(), labelsThatMayNotBe()) {
		own, asItWas := guarded(l, room)
		days, daysAsTheyWere := guarded([]int{3, 1, 2, 1}, 77)
		wrong, wrongAsTheyWere := guarded([]int{3, -1, 2, 1}, 77)
		for kind := range 7 {
			Make(Row{Kind: kind, Labels: own, Id: 7})
			Ahead(Row{Kind: kind, Labels: own, Id: 7})
		}
		All(own, 7, days)
		All(own, 7, wrong)
		All(own, 0, days)
		if !asItWas() || !daysAsTheyWere() || !wrongAsTheyWere() {
			t.Errorf("%q, or days, were changed", l)
		}
	}
	for _, item := range someItems(t) {
		for n := range len(item) + 1 {
			own, asItWas := guarded(item[:n], 7)
			if Parse(own); !asItWas() {
				t.Errorf("%q was changed", item[:n])
			}
		}
	}
}

func TestWhatIsHandedInIsNotKept(t *testing.T) {
	for _, r := range someKinds() {
		r.Labels = slices.Clone(r.Labels)
		want, _ := wantMake(r)
		wantA, _ := wantAhead(r)
		item, _ := Make(r)
		ahead, _ := Ahead(r)
		scribble(r.Labels, api.Label{Name: "z", Value: "z"})
		if !bytes.Equal(item, want) || !bytes.Equal(ahead, wantA) {
			t.Errorf("kind %d: %q, %q hang on the row", r.Kind, item, ahead)
		}
		back, _ := Parse(item)
		says, _ := wantParse(want)
		scribble(item, 9)
		if !same(back, says) {
			t.Errorf("%#v hangs on the bytes", back)
		}
	}
	l, days := sixLabels(), []int{2, 1}
	want, _ := wantAll(l, 7, days)
	got, _ := All(l, 7, days)
	scribble(l, api.Label{Name: "z", Value: "z"})
	scribble(days, 9)
	if !sameItems(got, want) {
		t.Error("All keeps what it is handed")
	}
}

func TestWhatIsToldIsNewMemory(t *testing.T) {
	for _, r := range someKinds() {
		want, _ := wantMake(r)
		wantA, _ := wantAhead(r)
		item, _ := Make(r)
		ahead, _ := Ahead(r)
		again, _ := Make(r)
		aheadAgain, _ := Ahead(r)
		scribble(item, 9)
		scribble(ahead, 9)
		if !bytes.Equal(again, want) || !bytes.Equal(aheadAgain, wantA) {
			t.Errorf("kind %d: two answers share memory", r.Kind)
		}
		says, _ := wantParse(want)
		back, _ := Parse(again)
		other, _ := Parse(again)
		scribble(back.Labels, api.Label{Name: "z", Value: "z"})
		if !same(other, says) || !bytes.Equal(again, want) {
			t.Errorf("kind %d: two rows share memory", r.Kind)
		}
		rowIs(t, r)
	}
}

func TestItemsOfAllShareNothing(t *testing.T) {
	l, days := sixLabels(), []int{3, 1, 2}
	want, _ := wantAll(l, 7, days)
	got, _ := All(l, 7, days)
	other, _ := All(l, 7, days)
	for i := range got {
		scribble(got[i], 9)
		got[i] = want[i]
		if !sameItems(got, want) {
			t.Fatalf("the item at %d shares memory with another one", i)
		}
	}
	scribble(got, nil)
	if !sameItems(other, want) || !slices.Equal(l, sixLabels()) || !slices.Equal(days, []int{3, 1, 2}) {
		t.Error("two answers share memory")
	}
	allAre(t, l, 7, days)
}
