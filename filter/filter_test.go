package filter

import (
	"bytes"
	"math/rand"
	"slices"
	"strings"
	"testing"

	"esker/api"
)

// rowOf is labels out of names and values by turns.
func rowOf(texts ...string) []api.Label {
	var l []api.Label
	for i := 0; i+1 < len(texts); i += 2 {
		l = append(l, api.Label{Name: texts[i], Value: texts[i+1]})
	}
	return l
}

// The four kinds of filters.

func plain(name, value string) api.Filter { return api.Filter{Name: name, Value: value} }

func begins(name, value string) api.Filter {
	return api.Filter{Name: name, Value: value, Prefix: true}
}

func isnt(name, value string) api.Filter { return api.Filter{Name: name, Value: value, Not: true} }

func beginsNot(name, value string) api.Filter {
	return api.Filter{Name: name, Value: value, Prefix: true, Not: true}
}

// kindsOf are the four filters of a name and a value.
func kindsOf(name, value string) []api.Filter {
	return []api.Filter{plain(name, value), begins(name, value), isnt(name, value), beginsNot(name, value)}
}

// wantCheck is whether filters may be, by the document's words.
func wantCheck(l []api.Filter) api.Errno {
	if len(l) > 4 {
		return api.ErrLimit
	}
	for _, f := range l {
		odd := strings.Trim(f.Name, "abcdefghijklmnopqrstuvwxyz0123456789_")
		if len(f.Name) == 0 || len(f.Name) > 12 || odd != "" || len(f.Value) > 16 {
			return api.ErrFilter
		}
	}
	return api.OK
}

// wantOne is what a filter tells of labels, by the document's words.
func wantOne(f api.Filter, l []api.Label) bool {
	value := ""
	for i := len(l) - 1; i >= 0; i-- {
		if l[i].Name == f.Name {
			value = l[i].Value
		}
	}
	so := value == f.Value
	if f.Prefix {
		so = len(value) >= len(f.Value) && value[:len(f.Value)] == f.Value
	}
	return so != f.Not
}

// wantAll counts the filters that let labels through.
func wantAll(f []api.Filter, l []api.Label) bool {
	n := 0
	for _, one := range f {
		if wantOne(one, l) {
			n++
		}
	}
	return n == len(f)
}

// wantExact goes through filters from the last one on.
func wantExact(f []api.Filter) int {
	place := -1
	for i := len(f) - 1; i >= 0; i-- {
		if f[i] == plain(f[i].Name, f[i].Value) && len(f[i].Value) > 0 {
			place = i
		}
	}
	return place
}

// someLabels are rows of labels that have the name job, have it twice, and don't have it, with values near to each other.
func someLabels() [][]api.Label {
	l := [][]api.Label{
		nil, {}, make([]api.Label, 1), rowOf("", "x"), rowOf("zone", "x"), rowOf("zone", "job"), rowOf("jo", "x"), rowOf("jobs", "x"), rowOf("Job", "x"),
		rowOf("job", "x", "job", "y"), rowOf("job", "y", "job", "x"), rowOf("job", "", "job", "x"), rowOf("job", "x", "job", ""), rowOf("job", "x", "job", "xy"),
		rowOf("zone", "x", "job", "y"), rowOf("zone", "y", "job", "x"), rowOf("job", "x", "zone", "y"), rowOf("a", "x", "job", "xy", "zone", "y"),
	}
	for _, value := range []string{"", "x", "xy", "xyz", "y", "yx", "X", " x", "x ", "\x00", "x\x00", "\xff", "x\xff", "é", "\xc3", strings.Repeat("x", 16), strings.Repeat("x", 17)} {
		l = append(l, rowOf("job", value), rowOf("host", "x", "job", value))
	}
	return l
}

// someFilters are filters of all kinds, some of which may not be.
func someFilters() []api.Filter {
	var f []api.Filter
	for _, name := range []string{"job", "zone", "jo", "jobs", "JOB", "", "abcdefghijklm"} {
		for _, value := range []string{"", "x", "xy", "y", "X", "\x00", "x\x00", "\xff", "\xc3", "job", strings.Repeat("x", 16), strings.Repeat("x", 17)} {
			f = append(f, kindsOf(name, value)...)
		}
	}
	return f
}

// inAllOrders goes through the orders that filters may come in.
func inAllOrders(f []api.Filter, tell func([]api.Filter)) {
	if len(f) == 0 {
		tell(nil)
		return
	}
	for i := range f {
		inAllOrders(slices.Concat(f[:i], f[i+1:]), func(rest []api.Filter) { tell(append([]api.Filter{f[i]}, rest...)) })
	}
}

// anyFilter is a filter of few texts, so that labels have them now and then.
func anyFilter(r *rand.Rand) api.Filter {
	names := []string{"a", "b", "c", "A", ""}
	values := []string{"", "x", "xy", "y", "x\x00"}
	return api.Filter{Name: names[r.Intn(len(names))], Value: values[r.Intn(len(values))], Prefix: r.Intn(2) == 0, Not: r.Intn(2) == 0}
}

// anyFilters are up to as many filters.
func anyFilters(r *rand.Rand, most int) []api.Filter {
	var f []api.Filter
	for range r.Intn(most + 1) {
		f = append(f, anyFilter(r))
	}
	return f
}

// anyLabels are labels, in whatever order, of the names and values that filters have.
func anyLabels(r *rand.Rand) []api.Label {
	var l []api.Label
	for range r.Intn(5) {
		f := anyFilter(r)
		l = append(l, api.Label{Name: f.Name, Value: f.Value})
	}
	return l
}

// P8.1

func TestCheckCountsFilters(t *testing.T) {
	f := []api.Filter{plain("a", "x"), begins("a", "x"), isnt("b", ""), beginsNot("c", "z"), plain("d", "")}
	for n, want := range []api.Errno{api.OK, api.OK, api.OK, api.OK, api.OK, api.ErrLimit} {
		if e := Check(f[:n]); e != want {
			t.Errorf("Check of %d = %v", n, e)
		}
	}
	same := slices.Repeat(f[:1], 100000)
	for n, want := range map[int]api.Errno{2: api.OK, 4: api.OK, 5: api.ErrLimit, 6: api.ErrLimit, 16: api.ErrLimit, 100000: api.ErrLimit} {
		if e := Check(same[:n]); e != want {
			t.Errorf("Check of %d alike = %v", n, e)
		}
	}
	if Check(nil) != api.OK || Check([]api.Filter{}) != api.OK {
		t.Error("Check of none")
	}
}

func TestCheckOfNames(t *testing.T) {
	for name, want := range map[string]api.Errno{
		"": api.ErrFilter, "a": api.OK, "z": api.OK, "0": api.OK, "9": api.OK, "_": api.OK, "abcdefghijkl": api.OK, "abcdefghijklm": api.ErrFilter, "a_0z9": api.OK,
		"____________": api.OK, "_____________": api.ErrFilter, "A": api.ErrFilter, "job ": api.ErrFilter, " job": api.ErrFilter, "jo-b": api.ErrFilter, "é": api.ErrFilter, "a\x00": api.ErrFilter,
		strings.Repeat("a", 1000): api.ErrFilter,
	} {
		for _, f := range slices.Concat(kindsOf(name, "x"), kindsOf(name, "")) {
			if e := Check([]api.Filter{f}); e != want {
				t.Errorf("Check of %+v = %v", f, e)
			}
		}
	}
}

func TestCheckOfEachByteOfANameAndOfAValue(t *testing.T) {
	mayBe := []byte("abcdefghijklmnopqrstuvwxyz0123456789_")
	for c := range 256 {
		one := string([]byte{byte(c)})
		want := api.ErrFilter
		if bytes.Contains(mayBe, []byte(one)) {
			want = api.OK
		}
		for _, name := range []string{one, one + "b", "a" + one, "a" + one + "b"} {
			if e := Check([]api.Filter{plain(name, "x")}); e != want {
				t.Errorf("Check of the name %q = %v", name, e)
			}
		}
		if e := Check([]api.Filter{plain("a", one)}); e != api.OK {
			t.Errorf("Check of the value %q = %v", one, e)
		}
	}
}

func TestCheckOfValues(t *testing.T) {
	for n := range 40 {
		want := api.OK
		if n > 16 {
			want = api.ErrFilter
		}
		for _, of := range []string{"x", "\x00", "\xff"} {
			for _, f := range kindsOf("a", strings.Repeat(of, n)) {
				if e := Check([]api.Filter{f}); e != want {
					t.Errorf("Check of %+v = %v", f, e)
				}
			}
		}
	}
	// Bytes are counted, not letters: these are nine, in 18 bytes.
	if e := Check([]api.Filter{plain("a", strings.Repeat("é", 9))}); e != api.ErrFilter {
		t.Errorf("Check of nine letters of two bytes = %v", e)
	}
}

func TestCheckLooksAtEachFilter(t *testing.T) {
	for _, odd := range []api.Filter{{}, plain("A", "x"), isnt("", "x"), begins("a", strings.Repeat("x", 17)), plain("abcdefghijklm", "")} {
		for n := 1; n <= 6; n++ {
			for at := range n {
				f := slices.Repeat([]api.Filter{plain("a", "x")}, n)
				f[at] = odd
				want := api.ErrFilter
				if n > 4 {
					want = api.ErrLimit
				}
				if e := Check(f); e != want {
					t.Errorf("Check of %d with %+v at %d = %v", n, odd, at, e)
				}
			}
		}
	}
	for n, want := range []api.Errno{api.OK, api.ErrFilter, api.ErrFilter, api.ErrFilter, api.ErrFilter, api.ErrLimit, api.ErrLimit} {
		if e := Check(make([]api.Filter, n)); e != want {
			t.Errorf("Check of %d that may not be = %v", n, e)
		}
	}
}

// P8.2

func TestOneOfTheExamples(t *testing.T) {
	for _, c := range []struct {
		f     api.Filter
		x, xy bool
	}{
		{plain("job", "x"), true, false}, {begins("job", "x"), true, true}, {isnt("job", ""), true, true},
	} {
		if x, xy := One(c.f, rowOf("job", "x")), One(c.f, rowOf("job", "xy")); x != c.x || xy != c.xy {
			t.Errorf("%+v: %v, %v", c.f, x, xy)
		}
	}
}

func TestOneOfEachKind(t *testing.T) {
	for _, c := range []struct {
		value                          string
		plain, begins, isnt, beginsNot bool
	}{
		{"xy", true, true, false, false},                      // the label's
		{"x", false, true, true, false},                       // the label's begins with it
		{"xyz", false, false, true, true},                     // begins with the label's
		{"y", false, false, true, true},                       // another one: the label's ends with it
		{"xz", false, false, true, true},                      // another one of that length
		{"XY", false, false, true, true},                      // of greater letters
		{"xy\x00", false, false, true, true},                  // with a nought behind
		{"", false, true, true, false},                        // empty
		{strings.Repeat("x", 1000), false, false, true, true}, // too long
	} {
		for _, l := range [][]api.Label{
			rowOf("job", "xy"), rowOf("host", "a", "job", "xy"), rowOf("job", "xy", "zone", "b"),
			rowOf("job", "xy", "job", "other"), rowOf("job", "xy", "job", ""), rowOf("job", "xy", "job", "xy"), rowOf("jo", "b", "job", "xy", "a", "c", "job", "z"),
		} {
			for i, want := range []bool{c.plain, c.begins, c.isnt, c.beginsNot} {
				if f := kindsOf("job", c.value)[i]; One(f, l) != want {
					t.Errorf("One(%+v, %q) = %v", f, l, !want)
				}
			}
		}
	}
}

func TestOneOfANameThatLabelsDontHave(t *testing.T) {
	for _, l := range [][]api.Label{nil, {}, rowOf("zone", "x"), rowOf("jo", "x"), rowOf("jobs", "x"), rowOf("JOB", "x"), rowOf("x", "job"), rowOf("", "x"), rowOf("job", ""), rowOf("job", "", "job", "x")} {
		for i, want := range []bool{true, true, false, false} {
			if f := kindsOf("job", "")[i]; One(f, l) != want {
				t.Errorf("One(%+v, %q) = %v", f, l, !want)
			}
		}
		for i, want := range []bool{false, false, true, true} {
			if f := kindsOf("job", "x")[i]; One(f, l) != want {
				t.Errorf("One(%+v, %q) = %v", f, l, !want)
			}
		}
	}
}

func TestOneOfAFilterThatMayNotBe(t *testing.T) {
	long := strings.Repeat("x", 17)
	for _, name := range []string{"", "A", "a b", "abcdefghijklm"} {
		l := rowOf("a", "y", name, long)
		for i, want := range []bool{true, true, false, false} {
			if f := kindsOf(name, long)[i]; One(f, l) != want {
				t.Errorf("One(%+v, %q) = %v", f, l, !want)
			}
		}
	}
}

func TestOneIsThatOfTheWords(t *testing.T) {
	for _, f := range someFilters() {
		for _, l := range someLabels() {
			if got, want := One(f, l), wantOne(f, l); got != want {
				t.Errorf("One(%+v, %q) = %v", f, l, got)
			}
		}
	}
}

func TestAllOfSomeFilters(t *testing.T) {
	l := rowOf("job", "web1", "host", "a")
	lets := []api.Filter{plain("job", "web1"), begins("job", "web"), isnt("job", "web"), beginsNot("job", "x"), plain("zone", ""), isnt("host", ""), begins("zone", "")}
	bars := []api.Filter{plain("job", "web"), begins("job", "web12"), isnt("job", "web1"), beginsNot("job", "web"), plain("host", ""), isnt("zone", ""), begins("zone", "a")}
	for n := range lets {
		if !All(lets[:n+1], l) {
			t.Errorf("All(%+v) = false", lets[:n+1])
		}
		if All(bars[:n+1], l) {
			t.Errorf("All(%+v) = true", bars[:n+1])
		}
	}
	for _, bar := range bars {
		if All([]api.Filter{bar}, l) {
			t.Errorf("All of %+v alone = true", bar)
		}
		for at := range len(lets) + 1 {
			if f := slices.Insert(slices.Clone(lets), at, bar); All(f, l) {
				t.Errorf("All with %+v at %d = true", bar, at)
			}
		}
	}
}

func TestAllOfNoFilters(t *testing.T) {
	for _, l := range someLabels() {
		if !All(nil, l) || !All([]api.Filter{}, l) {
			t.Errorf("All of no filters, %q = false", l)
		}
	}
}

func TestAllOfManyFilters(t *testing.T) {
	f := slices.Repeat([]api.Filter{plain("job", "x")}, 100000)
	if !All(f, rowOf("job", "x")) || All(f, rowOf("job", "y")) {
		t.Error("All of 100000 alike")
	}
	f[len(f)-1] = plain("job", "y")
	if All(f, rowOf("job", "x")) {
		t.Error("All of 100000, and another one at the end")
	}
}

// P8.3

func TestExactOfSomeFilters(t *testing.T) {
	x, y := plain("a", "x"), plain("b", "y")
	others := []api.Filter{begins("a", "x"), isnt("a", "x"), beginsNot("a", "x"), plain("a", ""), begins("a", ""), isnt("a", ""), beginsNot("a", "")}
	for _, c := range []struct {
		f    []api.Filter
		want int
	}{
		{nil, -1}, {[]api.Filter{}, -1}, {[]api.Filter{x}, 0}, {[]api.Filter{x, y}, 0}, {[]api.Filter{y, x}, 0}, {[]api.Filter{x, x}, 0}, {make([]api.Filter, 4), -1},
		{others, -1}, {slices.Concat(others, []api.Filter{x}), 7}, {slices.Concat(others, []api.Filter{y, x}), 7}, {slices.Concat([]api.Filter{x}, others), 0},
		{[]api.Filter{others[0], x, others[1], y}, 1}, {[]api.Filter{others[3], others[1], x, y}, 2},
		{[]api.Filter{plain("a", "\x00")}, 0}, {[]api.Filter{plain("a", " ")}, 0}, {[]api.Filter{plain("", "x")}, 0}, {[]api.Filter{plain("A", strings.Repeat("x", 17))}, 0},
	} {
		if got := Exact(c.f); got != c.want {
			t.Errorf("Exact(%+v) = %d", c.f, got)
		}
	}
	for _, other := range others {
		for n := range 6 {
			f := slices.Repeat([]api.Filter{other}, n)
			if got := Exact(f); got != -1 {
				t.Errorf("Exact of %d of %+v = %d", n, other, got)
			}
			if got := Exact(slices.Concat(f, []api.Filter{x, other, y})); got != n {
				t.Errorf("Exact of %d of %+v ahead = %d", n, other, got)
			}
		}
	}
}

// P8.4

func TestTheOrderOfFiltersPlaysNoPart(t *testing.T) {
	r := rand.New(rand.NewSource(84))
	for range 300 {
		f, l := anyFilters(r, 4), anyLabels(r)
		want, e := All(f, l), Check(f)
		inAllOrders(f, func(other []api.Filter) {
			if All(other, l) != want || Check(other) != e {
				t.Fatalf("All(%+v, %q) = %v, Check %v", other, l, !want, Check(other))
			}
		})
	}
}

func TestMoreFiltersLetNoMoreThrough(t *testing.T) {
	r := rand.New(rand.NewSource(85))
	lost := 0
	for range 20000 {
		f, l := anyFilters(r, 3), anyLabels(r)
		more := slices.Insert(slices.Clone(f), r.Intn(len(f)+1), anyFilter(r))
		if All(more, l) && !All(f, l) {
			t.Fatalf("%q: %+v let it through, %+v don't", l, more, f)
		}
		if All(f, l) && !All(more, l) {
			lost++
		}
	}
	if lost == 0 {
		t.Error("no filter ever let fewer through")
	}
}

func TestAFilterOrItsNotLetsThroughAndNeverBoth(t *testing.T) {
	for _, f := range someFilters() {
		other := f
		other.Not = !f.Not
		for _, l := range someLabels() {
			if One(f, l) == One(other, l) {
				t.Errorf("One(%+v, %q) is that of its Not", f, l)
			}
			if All([]api.Filter{f, other}, l) || All([]api.Filter{other, f}, l) {
				t.Errorf("%+v and its Not let %q through", f, l)
			}
			if All([]api.Filter{f}, l) == All([]api.Filter{other}, l) {
				t.Errorf("All of %+v alone, of %q, is that of its Not", f, l)
			}
		}
	}
}

// What holds for all calls.

func TestWhatIsHandedInIsNeitherChangedNorKept(t *testing.T) {
	r := rand.New(rand.NewSource(86))
	for range 2000 {
		f, l := anyFilters(r, 6), anyLabels(r)
		ownF, sameF := guarded(f, plain("room", "room"))
		ownL, sameL := guarded(l, api.Label{Name: "room", Value: "room"})
		Check(ownF)
		Exact(ownF)
		All(ownF, ownL)
		for _, one := range ownF {
			One(one, ownL)
		}
		if !sameF() || !sameL() {
			t.Fatalf("%+v, %q were changed", f, l)
		}
		// Calls with the same memory, that has other things by now, answer for these.
		for i := range ownF {
			ownF[i] = anyFilter(r)
		}
		for i := range ownL {
			ownL[i].Value = "xy"
		}
		if All(ownF, ownL) != wantAll(ownF, ownL) || Exact(ownF) != wantExact(ownF) || Check(ownF) != wantCheck(ownF) {
			t.Fatalf("%+v, %q: something was kept", ownF, ownL)
		}
	}
}

// guarded is a list with room behind its end, and whether all of that is as it was.
func guarded[T comparable](l []T, room T) ([]T, func() bool) {
	full := append(slices.Clone(l), room, room, room)
	before := slices.Clone(full)
	return full[:len(l)], func() bool { return slices.Equal(full, before) }
}

func TestAnyFiltersAreAsTheWordsSay(t *testing.T) {
	r := rand.New(rand.NewSource(81))
	for range 40000 {
		f, l := anyFilters(r, 6), anyLabels(r)
		if got, want := All(f, l), wantAll(f, l); got != want {
			t.Fatalf("All(%+v, %q) = %v", f, l, got)
		}
		if got, want := Exact(f), wantExact(f); got != want {
			t.Fatalf("Exact(%+v) = %d, want %d", f, got, want)
		}
		if got, want := Check(f), wantCheck(f); got != want {
			t.Fatalf("Check(%+v) = %v, want %v", f, got, want)
		}
		one := anyFilter(r)
		if got, want := One(one, l), wantOne(one, l); got != want {
			t.Fatalf("One(%+v, %q) = %v", one, l, got)
		}
	}
}
