package simfs

import (
	"bytes"
	"maps"
	"math"
	"math/rand"
	"slices"
	"sort"
	"strings"
	"testing"

	"esker/api"
)

const (
	longest = "abcdefghijklmnopqrstuvwx"
	tooLong = "abcdefghijklmnopqrstuvwxy"
)

// want tells where an answer is another one.
func want(t *testing.T, got, want api.Errno) {
	t.Helper()
	if got != want {
		t.Errorf("answered %d, want %d", got, want)
	}
}

// ok tells where one of the calls that were made doesn't answer OK.
func ok(t *testing.T, answers ...api.Errno) {
	t.Helper()
	for i, e := range answers {
		if e != api.OK {
			t.Fatalf("call %d answered %d", i, e)
		}
	}
}

// has tells where the files aren't just these: a path and its bytes by turns, the paths rising.
func has(t *testing.T, f *FS, pairs ...string) {
	t.Helper()
	var paths []string
	for i := 0; i < len(pairs); i += 2 {
		paths = append(paths, pairs[i])
		if b, e := f.Read(pairs[i]); string(b) != pairs[i+1] || e != api.OK {
			t.Errorf("Read(%q) = %q, %d, want %q", pairs[i], b, e, pairs[i+1])
		}
	}
	if l := f.List(""); !slices.Equal(l, paths) {
		t.Errorf("List = %q, want %q", l, paths)
	}
}

// counts tells where Used or Pending is another one.
func counts(t *testing.T, f *FS, used, pending int) {
	t.Helper()
	if f.Used() != used || f.Pending() != pending {
		t.Errorf("Used %d, Pending %d, want %d, %d", f.Used(), f.Pending(), used, pending)
	}
}

// seen is all that can be asked of files without changing them, as one text.
func seen(f *FS) string {
	var s strings.Builder
	for _, path := range f.List("") {
		b, e := f.Read(path)
		s.WriteString(path + "=" + string(b) + "\n" + e.Error() + "\n")
	}
	return s.String() + strings.Repeat("u", f.Used()) + strings.Repeat("p", f.Pending())
}

// told is all that a crash can leave, and so what can be told of what stays.
func told(f *FS) string {
	s := seen(f)
	for changes := range f.Pending() + 1 {
		for _, n := range []int{0, 1, 2, math.MaxInt} {
			g := f.Clone()
			g.Crash(changes, n)
			s += "|" + seen(g)
		}
	}
	return s
}

// files is files of which some bytes and paths stay and some don't, one with two paths.
func files(t *testing.T) *FS {
	t.Helper()
	f := New(100)
	ok(t, f.Create("a"), f.Append("a", []byte("xyz")), f.Sync("a"), f.Create("b/c"), f.Append("b/c", []byte("123")), f.SyncDir())
	ok(t, f.Append("a", []byte("uv")), f.Link("a", "l"), f.Create("d"), f.Append("d", []byte("q")), f.Remove("b/c"))
	return f
}

// The document's examples.

func TestTheDocumentsExamples(t *testing.T) {
	f := New(100)
	ok(t, f.Create("a"), f.Append("a", []byte("xyz")))
	f.Crash(0, 9)
	has(t, f)
	if b, e := f.Read("a"); len(b) != 0 || e != api.ErrNone {
		t.Error(b, e)
	}

	f = New(100)
	ok(t, f.Create("a"), f.Append("a", []byte("xyz")), f.Sync("a"), f.Append("a", []byte("uv")))
	f.Crash(1, 1)
	has(t, f, "a", "xyzu")
}

// P6.1

func TestNewHasNothing(t *testing.T) {
	for _, room := range []int{math.MinInt, -1, 0, 1, 1 << 24, math.MaxInt} {
		f := New(room)
		has(t, f)
		counts(t, f, 0, 0)
		if b, e := f.Read("a"); len(b) != 0 || e != api.ErrNone {
			t.Error(room, b, e)
		}
	}
}

func TestNewHasRoomForSoManyBytes(t *testing.T) {
	for _, c := range []struct{ room, fits int }{
		{math.MinInt, 0}, {-1, 0}, {0, 0}, {1, 1}, {2, 2}, {1000, 1000}, {1 << 20, 1 << 20}, {1<<20 + 1, 1<<20 + 1},
		{1<<24 - 1, 1<<24 - 1}, {1 << 24, 1 << 24}, {1<<24 + 1, 1 << 24}, {math.MaxInt, 1 << 24},
	} {
		f := New(c.room)
		full := make([]byte, 1<<20)
		left := c.fits
		for i := 0; left > 0; i++ {
			n := min(left, len(full))
			path := "f" + string(rune('a'+i))
			ok(t, f.Create(path), f.Append(path, full[:n]))
			left -= n
		}
		counts(t, f, c.fits, len(f.List("")))
		ok(t, f.Create("more"), f.Append("more", nil))
		want(t, f.Append("more", []byte("x")), api.ErrFull)
		counts(t, f, c.fits, len(f.List("")))
	}
}

func TestUsedCountsAFileOnceThatHasSeveralPaths(t *testing.T) {
	f := New(10)
	ok(t, f.Create("a"), f.Append("a", []byte("1234")), f.Link("a", "b"), f.Link("b", "c"))
	counts(t, f, 4, 3)
	ok(t, f.Append("c", []byte("56")), f.Create("d"), f.Append("d", []byte("7")))
	counts(t, f, 7, 4)
	has(t, f, "a", "123456", "b", "123456", "c", "123456", "d", "7")
	ok(t, f.Remove("a"), f.Rename("b", "e"))
	counts(t, f, 7, 6)
	has(t, f, "c", "123456", "d", "7", "e", "123456")
	ok(t, f.Remove("c"))
	counts(t, f, 7, 7)
	ok(t, f.Remove("e"))
	counts(t, f, 1, 8)
	has(t, f, "d", "7")
}

func TestListIsThePathsThatBeginSo(t *testing.T) {
	f := New(0)
	for _, path := range []string{"db/b", "db", "a", "z", "db/a", "db.", "0", "da", "db/", "/", ".", "db/a/x", "9", longest} {
		ok(t, f.Create(path))
	}
	for _, c := range []struct {
		first string
		l     []string
	}{
		{"", []string{".", "/", "0", "9", "a", longest, "da", "db", "db.", "db/", "db/a", "db/a/x", "db/b", "z"}},
		{"d", []string{"da", "db", "db.", "db/", "db/a", "db/a/x", "db/b"}}, {"db/", []string{"db/", "db/a", "db/a/x", "db/b"}},
		{"db/a", []string{"db/a", "db/a/x"}}, {"z", []string{"z"}}, {"zz", nil}, {"b", nil}, {"D", nil}, {"\x00", nil}, {"\xff", nil},
		{longest, []string{longest}}, {tooLong, nil}, {strings.Repeat("a", 99), nil},
	} {
		if l := f.List(c.first); !slices.Equal(l, c.l) {
			t.Errorf("List(%q) = %q, want %q", c.first, l, c.l)
		}
	}
}

func TestPendingCountsWhatChangedPathsAndNothingElse(t *testing.T) {
	f := New(100)
	steps := []struct {
		do      func() api.Errno
		pending int
	}{
		{func() api.Errno { return f.Create("a") }, 1},
		{func() api.Errno { return f.Append("a", []byte("x")) }, 1},
		{func() api.Errno { return f.Sync("a") }, 1},
		{func() api.Errno { return f.Link("a", "b") }, 2},
		{func() api.Errno { return f.Rename("a", "c") }, 3},
		{func() api.Errno { return f.Rename("c", "c") }, 4},
		{func() api.Errno { return f.Rename("c", "b") }, 5},
		{func() api.Errno { return f.Remove("b") }, 6},
		{func() api.Errno { return f.SyncDir() }, 0},
		{func() api.Errno { return f.SyncDir() }, 0},
		{func() api.Errno { return f.Create("a") }, 1},
	}
	for i, s := range steps {
		ok(t, s.do())
		if f.Pending() != s.pending {
			t.Errorf("step %d: %d changes, want %d", i, f.Pending(), s.pending)
		}
	}
}

// P6.2

func TestPathsThatMayBe(t *testing.T) {
	good := []string{"a", "z", "0", "9", ".", "/", "..", "//", "a/b.c9", longest, strings.Repeat("/", 24), strings.Repeat("0", 23)}
	bad := []string{"", tooLong, strings.Repeat("a", 25), strings.Repeat("a", 1<<16), "A", "a b", "a\x00", "a-b", "a_b", "é", "aé", "a\n", `a\b`}
	for c := range 256 {
		path := string([]byte{byte(c)})
		if c >= 'a' && c <= 'z' || c >= '0' && c <= '9' || c == '.' || c == '/' {
			good = append(good, path, "a"+path, path+"a", strings.Repeat("a", 23)+path)
		} else {
			bad = append(bad, path, "a"+path, path+"a", strings.Repeat("a", 23)+path, "ab"+path+"cd")
		}
	}
	for _, path := range good {
		f := New(10)
		ok(t, f.Create(path), f.Append(path, []byte("x")), f.Sync(path))
		has(t, f, path, "x")
		ok(t, f.Remove(path), f.Create("from"), f.Link("from", path), f.Remove(path), f.Rename("from", path))
		has(t, f, path, "")
	}
	for _, path := range bad {
		f := New(10)
		ok(t, f.Create("from"))
		want(t, f.Create(path), api.ErrPath)
		want(t, f.Link("from", path), api.ErrPath)
		want(t, f.Rename("from", path), api.ErrPath)
		want(t, f.Append(path, nil), api.ErrNone)
		want(t, f.Sync(path), api.ErrNone)
		want(t, f.Remove(path), api.ErrNone)
		want(t, f.Rename(path, "to"), api.ErrNone)
		want(t, f.Link(path, "to"), api.ErrNone)
		if b, e := f.Read(path); len(b) != 0 || e != api.ErrNone {
			t.Errorf("Read(%q) = %v, %d", path, b, e)
		}
		has(t, f, "from", "")
		counts(t, f, 0, 1)
	}
}

func TestCreateMakesAnEmptyFileOnce(t *testing.T) {
	f := New(10)
	ok(t, f.Create("a"))
	has(t, f, "a", "")
	ok(t, f.Append("a", []byte("x")))
	want(t, f.Create("a"), api.ErrThere)
	has(t, f, "a", "x")
	ok(t, f.Remove("a"), f.Create("a"))
	has(t, f, "a", "")
	counts(t, f, 0, 3)
}

func TestAppendGoesBehindAll(t *testing.T) {
	f := New(1000)
	ok(t, f.Create("a"), f.Create("b"))
	ok(t, f.Append("a", []byte("xy")), f.Append("b", []byte("1")), f.Append("a", nil), f.Append("a", []byte{}), f.Append("a", []byte{0, 255}))
	has(t, f, "a", "xy\x00\xff", "b", "1")
	counts(t, f, 5, 2)
}

func TestAppendThatJustFitsAndOneThatDoesNot(t *testing.T) {
	f := New(10)
	ok(t, f.Create("a"), f.Create("b"), f.Append("a", []byte("123456")))
	want(t, f.Append("b", []byte("12345")), api.ErrFull)
	want(t, f.Append("a", []byte("12345")), api.ErrFull)
	has(t, f, "a", "123456", "b", "")
	ok(t, f.Append("b", []byte("1234")))
	want(t, f.Append("b", []byte("1")), api.ErrFull)
	want(t, f.Append("a", []byte("1")), api.ErrFull)
	ok(t, f.Append("a", nil), f.Append("b", []byte{}))
	has(t, f, "a", "123456", "b", "1234")
	counts(t, f, 10, 2)
	ok(t, f.Remove("a"), f.Append("b", []byte("123456")))
	has(t, f, "b", "1234123456")
}

func TestAppendOfMoreThanAFileMayHave(t *testing.T) {
	most := make([]byte, 1<<20)
	f := New(1 << 24)
	ok(t, f.Create("a"), f.Create("b"), f.Append("a", most))
	want(t, f.Append("a", []byte("x")), api.ErrLimit)
	ok(t, f.Append("a", nil))
	want(t, f.Append("b", append(most, 'x')), api.ErrLimit)
	ok(t, f.Append("b", []byte("x")))
	want(t, f.Append("b", most), api.ErrLimit)
	ok(t, f.Append("b", most[1:]))
	want(t, f.Append("b", []byte("x")), api.ErrLimit)
	counts(t, f, 2<<20, 2)
}

func TestAppendsErrorsInTheirOrder(t *testing.T) {
	f := New(4)
	tooMuch := make([]byte, 1<<20+1)
	want(t, f.Append("a", tooMuch), api.ErrNone)
	want(t, f.Append("A", tooMuch), api.ErrNone)
	ok(t, f.Create("a"))
	want(t, f.Append("a", tooMuch), api.ErrLimit)
	want(t, f.Append("a", tooMuch[1:]), api.ErrFull)
	has(t, f, "a", "")
}

func TestSyncLetsAFilesBytesStay(t *testing.T) {
	f := New(100)
	want(t, f.Sync("a"), api.ErrNone)
	ok(t, f.Create("a"), f.Create("b"), f.Append("a", []byte("123")), f.Append("b", []byte("456")), f.Sync("a"), f.Append("a", []byte("78")))
	has(t, f, "a", "12378", "b", "456")
	f.Crash(2, 0)
	has(t, f, "a", "123", "b", "")
}

func TestSyncByOnePathIsOfTheFile(t *testing.T) {
	f := New(100)
	ok(t, f.Create("a"), f.Link("a", "b"), f.Append("a", []byte("123")), f.Sync("b"), f.Append("b", []byte("4")), f.Remove("b"))
	f.Crash(2, 0)
	has(t, f, "a", "123", "b", "123")
	counts(t, f, 3, 0)
}

// P6.3

func TestRenameGivesAnotherPath(t *testing.T) {
	f := New(100)
	ok(t, f.Create("a"), f.Append("a", []byte("x")), f.Rename("a", "b"))
	has(t, f, "b", "x")
	want(t, f.Rename("a", "b"), api.ErrNone)
	want(t, f.Rename("a", "a"), api.ErrNone)
	want(t, f.Rename("a", "B"), api.ErrNone)
	want(t, f.Rename("b", "B"), api.ErrPath)
	want(t, f.Rename("b", ""), api.ErrPath)
	ok(t, f.Append("b", []byte("y")), f.Create("a"))
	has(t, f, "a", "", "b", "xy")
	counts(t, f, 2, 3)
}

func TestRenameOverAnotherFile(t *testing.T) {
	f := New(10)
	ok(t, f.Create("a"), f.Append("a", []byte("new")), f.Create("b"), f.Append("b", []byte("older")), f.Rename("a", "b"))
	has(t, f, "b", "new")
	counts(t, f, 3, 3)
	ok(t, f.Append("b", []byte("1234567")))

	f = New(10)
	ok(t, f.Create("a"), f.Append("a", []byte("new")), f.Create("b"), f.Append("b", []byte("older")), f.Link("b", "c"), f.Rename("a", "b"))
	has(t, f, "b", "new", "c", "older")
	counts(t, f, 8, 4)
}

func TestRenameToItselfIsAChangeThatChangesNothing(t *testing.T) {
	f := New(10)
	ok(t, f.Create("a"), f.Append("a", []byte("x")), f.SyncDir(), f.Rename("a", "a"))
	has(t, f, "a", "x")
	counts(t, f, 1, 1)
	ok(t, f.Append("a", []byte("y")), f.Create("b"))
	f.Crash(1, 9)
	has(t, f, "a", "xy")
}

func TestRenameToAnotherPathOfTheFile(t *testing.T) {
	f := New(10)
	ok(t, f.Create("a"), f.Append("a", []byte("x")), f.Link("a", "b"), f.Rename("a", "b"))
	has(t, f, "b", "x")
	counts(t, f, 1, 3)
}

func TestLinkGivesOneMorePath(t *testing.T) {
	f := New(10)
	ok(t, f.Create("a"), f.Create("b"), f.Append("a", []byte("x")), f.Link("a", "c"))
	has(t, f, "a", "x", "b", "", "c", "x")
	want(t, f.Link("d", "B"), api.ErrNone)
	want(t, f.Link("d", "a"), api.ErrNone)
	want(t, f.Link("a", "B"), api.ErrPath)
	want(t, f.Link("a", "b"), api.ErrThere)
	want(t, f.Link("a", "c"), api.ErrThere)
	want(t, f.Link("a", "a"), api.ErrThere)
	counts(t, f, 1, 3)
	ok(t, f.Append("c", []byte("y")))
	has(t, f, "a", "xy", "b", "", "c", "xy")
}

func TestRemoveTakesAPathAwayAndTheFileWithTheLast(t *testing.T) {
	f := New(10)
	want(t, f.Remove("a"), api.ErrNone)
	ok(t, f.Create("a"), f.Append("a", []byte("1234567890")), f.Link("a", "b"), f.Remove("a"))
	want(t, f.Remove("a"), api.ErrNone)
	has(t, f, "b", "1234567890")
	counts(t, f, 10, 3)
	ok(t, f.Remove("b"), f.Create("c"), f.Append("c", []byte("0987654321")))
	has(t, f, "c", "0987654321")
	counts(t, f, 10, 5)
}

func TestSyncDirLetsPathsStayAndNotBytes(t *testing.T) {
	f := New(100)
	ok(t, f.SyncDir(), f.Create("a"), f.Append("a", []byte("123")), f.Create("b"), f.Sync("b"), f.Remove("b"), f.SyncDir())
	counts(t, f, 3, 0)
	has(t, f, "a", "123")
	f.Crash(9, 1)
	has(t, f, "a", "1")
}

// P6.4

func TestCrashLeavesTheFirstChangesAndBytes(t *testing.T) {
	for _, c := range []struct {
		changes, bytes int
		pairs          []string
	}{
		{math.MinInt, math.MinInt, []string{"a", "xyz", "b/c", ""}}, {-1, -1, []string{"a", "xyz", "b/c", ""}},
		{0, 0, []string{"a", "xyz", "b/c", ""}}, {0, 1, []string{"a", "xyzu", "b/c", "1"}}, {0, 2, []string{"a", "xyzuv", "b/c", "12"}},
		{0, 3, []string{"a", "xyzuv", "b/c", "123"}}, {0, math.MaxInt, []string{"a", "xyzuv", "b/c", "123"}},
		{1, 1, []string{"a", "xyzu", "b/c", "1", "l", "xyzu"}}, {2, 0, []string{"a", "xyz", "b/c", "", "d", "", "l", "xyz"}},
		{2, 9, []string{"a", "xyzuv", "b/c", "123", "d", "q", "l", "xyzuv"}}, {3, 1, []string{"a", "xyzu", "d", "q", "l", "xyzu"}},
		{3, -1, []string{"a", "xyz", "d", "", "l", "xyz"}}, {4, 2, []string{"a", "xyzuv", "d", "q", "l", "xyzuv"}},
		{math.MaxInt, math.MaxInt, []string{"a", "xyzuv", "d", "q", "l", "xyzuv"}}, {math.MaxInt, 0, []string{"a", "xyz", "d", "", "l", "xyz"}},
	} {
		f := files(t)
		f.Crash(c.changes, c.bytes)
		has(t, f, c.pairs...)
		if f.Pending() != 0 {
			t.Error("changes behind a crash:", f.Pending())
		}
		// A crash behind it finds that all of this stays.
		for _, again := range []int{-1, 0, 1, math.MaxInt} {
			f.Crash(again, again)
			has(t, f, c.pairs...)
		}
	}
}

func TestAFileThatACrashBringsBackHasOnePlaceInAll(t *testing.T) {
	f := files(t)
	f.Crash(1, 1)
	counts(t, f, 5, 0)
	ok(t, f.Append("l", []byte("!")), f.Remove("a"))
	has(t, f, "b/c", "1", "l", "xyzu!")
	f.Crash(0, 1)
	has(t, f, "a", "xyzu!", "b/c", "1", "l", "xyzu!")
}

func TestACrashMayLeaveMoreThanThereIsRoomFor(t *testing.T) {
	f := New(10)
	ok(t, f.Create("a"), f.Append("a", []byte("12345678")), f.Sync("a"), f.SyncDir())
	ok(t, f.Create("b"), f.Remove("a"), f.Append("b", []byte("12345678")), f.Sync("b"))
	f.Crash(1, 0)
	has(t, f, "a", "12345678", "b", "12345678")
	counts(t, f, 16, 0)
	want(t, f.Append("a", []byte("x")), api.ErrFull)
	ok(t, f.Append("a", nil), f.Remove("b"), f.Append("a", []byte("90")))
}

func TestAFileThatWasGoneComesBackWithTheBytesItHad(t *testing.T) {
	f := New(10)
	ok(t, f.Create("a"), f.Append("a", []byte("12")), f.Sync("a"), f.Append("a", []byte("34")), f.Remove("a"), f.Create("a"), f.Append("a", []byte("5")))
	f.Crash(1, 1)
	has(t, f, "a", "123")
}

func TestACrashCutsBytesForGood(t *testing.T) {
	f := New(10)
	ok(t, f.Create("a"), f.Append("a", []byte("1234567890")), f.SyncDir())
	f.Crash(0, 3)
	ok(t, f.Append("a", []byte("abcdefg")))
	want(t, f.Append("a", []byte("h")), api.ErrFull)
	has(t, f, "a", "123abcdefg")
	f.Crash(0, 2)
	has(t, f, "a", "123ab")
}

func TestACrashOfNoFiles(t *testing.T) {
	f := New(10)
	f.Crash(5, 5)
	has(t, f)
	ok(t, f.Create("a"), f.Append("a", []byte("x")))
	f.Crash(1, 0)
	has(t, f, "a", "")
}

func TestACloneIsTheSame(t *testing.T) {
	for _, f := range []*FS{New(0), New(10), files(t)} {
		if g := f.Clone(); told(g) != told(f) {
			t.Errorf("a clone tells %q, want %q", told(g), told(f))
		}
		g := f.Clone().Clone()
		want(t, g.Create("z"), api.OK)
		want(t, g.Append("z", make([]byte, 101)), api.ErrFull)
	}
	f := New(3)
	ok(t, f.Create("a"), f.Append("a", []byte("12")))
	g := f.Clone()
	want(t, g.Append("a", []byte("34")), api.ErrFull)
	want(t, g.Append("a", []byte("3")), api.OK)
}

func TestACloneAndItsFirstOneGoTheirOwnWays(t *testing.T) {
	ways := []func(f *FS){
		func(f *FS) { f.Create("new") },
		func(f *FS) { f.Append("a", []byte("more")) },
		func(f *FS) { f.Append("l", []byte("m")) },
		func(f *FS) { f.Append("d", []byte("m")); f.Sync("d") },
		func(f *FS) { f.Sync("a") },
		func(f *FS) { f.Rename("a", "d") },
		func(f *FS) { f.Link("d", "e") },
		func(f *FS) { f.Remove("a"); f.Remove("l") },
		func(f *FS) { f.SyncDir() },
		func(f *FS) { f.Crash(1, 1) },
		func(f *FS) { f.Crash(0, 0); f.Create("n"); f.Append("n", []byte("n")); f.Append("a", []byte("n")) },
		func(f *FS) { f.Fuse(0) },
		func(f *FS) { f.Create("n"); f.Append("n", []byte("n")); f.Remove("n"); f.Create("n") },
	}
	was := told(files(t))
	for i, way := range ways {
		f := files(t)
		g := f.Clone()
		way(f)
		if told(g) != was {
			t.Errorf("way %d of the first one changed its clone", i)
		}
		alone := files(t)
		way(alone)
		if told(f) != told(alone) {
			t.Errorf("way %d goes otherwise where there is a clone", i)
		}
		way(g)
		if told(g) != told(alone) {
			t.Errorf("way %d of a clone goes otherwise", i)
		}
		f, g = files(t), nil
		g = f.Clone()
		way(g)
		if told(f) != was {
			t.Errorf("way %d of a clone changed its first one", i)
		}
		ok(t, f.Create("still"), f.Append("still", []byte("there")))
	}
}

func TestBytesBehindThoseThatACloneHasToo(t *testing.T) {
	// Files of many lengths, made by many calls: room behind a file's end must not be shared, wherever there is some.
	f := New(1000)
	ok(t, f.Create("a"))
	for n := range 40 {
		text := strings.Repeat("-", n)
		g := f.Clone()
		h := g.Clone()
		ok(t, f.Append("a", []byte("f")), g.Append("a", []byte("g")), h.Append("a", []byte("h")))
		has(t, f, "a", text+"f")
		has(t, g, "a", text+"g")
		has(t, h, "a", text+"h")
		f = h.Clone()
		ok(t, f.Remove("a"), f.Create("a"))
		for range n + 1 {
			ok(t, f.Append("a", []byte("-")))
		}
	}
}

// A clone and its first one make files apart: those of one must not be taken for those of the other one, or for older ones.
func TestFilesThatACloneMakesAreItsOwn(t *testing.T) {
	f := New(100)
	ok(t, f.Create("a"), f.Append("a", []byte("12")))
	g := f.Clone()
	ok(t, g.Create("b"), g.Append("b", []byte("345")), f.Create("c"), f.Append("c", []byte("6")))
	has(t, g, "a", "12", "b", "345")
	counts(t, g, 5, 2)
	has(t, f, "a", "12", "c", "6")
	counts(t, f, 3, 2)
	h := g.Clone()
	h.Crash(9, 9)
	has(t, h, "a", "12", "b", "345")
	counts(t, h, 5, 0)
}

// P6.5

// changing is each call that a fuse counts, made so that it goes well on files, with one more that doesn't.
func changing() []func(f *FS) api.Errno {
	return []func(f *FS) api.Errno{
		func(f *FS) api.Errno { return f.Create("new") },
		func(f *FS) api.Errno { return f.Append("a", []byte("x")) },
		func(f *FS) api.Errno { return f.Append("a", nil) },
		func(f *FS) api.Errno { return f.Sync("a") },
		func(f *FS) api.Errno { return f.Rename("a", "d") },
		func(f *FS) api.Errno { return f.Link("d", "e") },
		func(f *FS) api.Errno { return f.Remove("d") },
		func(f *FS) api.Errno { return f.SyncDir() },
	}
}

// failing is calls that a fuse counts, and that answer errors on files.
func failing() map[string]func(f *FS) api.Errno {
	return map[string]func(f *FS) api.Errno{
		"create path":  func(f *FS) api.Errno { return f.Create("A") },
		"create there": func(f *FS) api.Errno { return f.Create("a") },
		"append none":  func(f *FS) api.Errno { return f.Append("z", nil) },
		"append limit": func(f *FS) api.Errno { return f.Append("a", make([]byte, 1<<20)) },
		"append full":  func(f *FS) api.Errno { return f.Append("a", make([]byte, 1000)) },
		"sync none":    func(f *FS) api.Errno { return f.Sync("z") },
		"rename none":  func(f *FS) api.Errno { return f.Rename("z", "y") },
		"rename path":  func(f *FS) api.Errno { return f.Rename("a", "A") },
		"link none":    func(f *FS) api.Errno { return f.Link("z", "y") },
		"link path":    func(f *FS) api.Errno { return f.Link("a", "A") },
		"link there":   func(f *FS) api.Errno { return f.Link("a", "d") },
		"remove none":  func(f *FS) api.Errno { return f.Remove("z") },
	}
}

func TestErrorsChangeNothing(t *testing.T) {
	was := told(files(t))
	for name, call := range failing() {
		f := files(t)
		if e := call(f); e == api.OK {
			t.Errorf("%s went well", name)
		}
		if told(f) != was {
			t.Errorf("%s changed something", name)
		}
	}
}

func TestAFuseLetsTheFirstCallsDoWhatTheyDo(t *testing.T) {
	for _, n := range []int{math.MinInt, -1, 0, 1, 2, 3, 7, math.MaxInt} {
		for _, call := range changing() {
			f := files(t)
			f.Fuse(n)
			for i := range min(max(n, 0), 9) {
				if e := f.Append("l", nil); e != api.OK {
					t.Fatalf("fuse of %d: call %d answered %d", n, i, e)
				}
			}
			was := told(f)
			e := call(f)
			if n <= 9 && (e != api.ErrFull || told(f) != was) || n > 9 && e != api.OK {
				t.Errorf("fuse of %d: answered %d", n, e)
			}
		}
	}
}

func TestACallWithinAFuseDoesWhatItDoes(t *testing.T) {
	for i, call := range changing() {
		f, g := files(t), files(t)
		f.Fuse(1)
		ok(t, call(f), call(g))
		if seen(f) != seen(g) {
			t.Errorf("call %d does otherwise within a fuse", i)
		}
		want(t, f.SyncDir(), api.ErrFull)
	}
}

func TestBehindAFuseAllErrorsAreFull(t *testing.T) {
	was := told(files(t))
	for name, call := range failing() {
		f := files(t)
		f.Fuse(0)
		if e := call(f); e != api.ErrFull {
			t.Errorf("%s answered %d behind a fuse", name, e)
		}
		f.Crash(0, 0)
		g := files(t)
		g.Crash(0, 0)
		if told(f) != told(g) || told(files(t)) != was {
			t.Errorf("%s changed something behind a fuse", name)
		}
	}
}

func TestACallThatAnswersAnErrorCounts(t *testing.T) {
	for name, call := range failing() {
		f := files(t)
		f.Fuse(2)
		without := files(t)
		if e, wantE := call(f), call(without); e != wantE {
			t.Errorf("%s answered %d within a fuse, want %d", name, e, wantE)
		}
		want(t, f.Sync("a"), api.OK)
		want(t, f.Sync("a"), api.ErrFull)
	}
}

func TestAFuseDoesNotCountWhatChangesNothing(t *testing.T) {
	f := files(t)
	f.Fuse(1)
	for range 5 {
		f.Read("a")
		f.Read("z")
		f.List("")
		f.Used()
		f.Pending()
		f.Clone()
	}
	ok(t, f.Append("a", []byte("1")))
	want(t, f.Append("a", []byte("2")), api.ErrFull)
	if b, e := f.Read("a"); string(b) != "xyzuv1" || e != api.OK {
		t.Error("Read behind a fuse:", b, e)
	}
	if _, e := f.Read("z"); e != api.ErrNone {
		t.Error("Read of no path behind a fuse:", e)
	}
	if l := f.List(""); !slices.Equal(l, []string{"a", "d", "l"}) {
		t.Error("List behind a fuse:", l)
	}
	counts(t, f, 7, 3)
}

func TestAFuseInThePlaceOfAnotherOne(t *testing.T) {
	for _, first := range []int{-5, 0, 1, 9} {
		for _, second := range []int{-5, 0, 1, 3} {
			f := files(t)
			f.Fuse(first)
			f.Sync("a")
			f.Fuse(second)
			for range max(second, 0) {
				want(t, f.Sync("a"), api.OK)
			}
			want(t, f.Sync("a"), api.ErrFull)
			want(t, f.Sync("a"), api.ErrFull)
		}
	}
}

func TestACrashEndsAFuse(t *testing.T) {
	for _, n := range []int{-1, 0, 1, 5} {
		for _, calls := range []int{0, 1, 2, 9} {
			f := files(t)
			f.Fuse(n)
			for range calls {
				f.Sync("a")
			}
			f.Crash(0, 0)
			for range 20 {
				want(t, f.Append("a", []byte("x")), api.OK)
			}
			f.Fuse(1)
			want(t, f.Sync("a"), api.OK)
			want(t, f.Sync("a"), api.ErrFull)
		}
	}
}

func TestACloneHasTheFuseAsFarAsItIsLeft(t *testing.T) {
	left := func(f *FS) int {
		n := 0
		for f.Sync("a") == api.OK && n < 50 {
			n++
		}
		return n
	}
	for _, n := range []int{-1, 0, 1, 4} {
		f := files(t)
		f.Fuse(n)
		f.Sync("a")
		g, h, k := f.Clone(), f.Clone(), f.Clone()
		rest := max(n-1, 0)
		if got := left(g); got != rest {
			t.Errorf("fuse of %d: its clone lets %d do something, want %d", n, got, rest)
		}
		h.Crash(0, 0)
		k.Fuse(7)
		if got := left(f); got != rest {
			t.Errorf("fuse of %d: behind its clone it lets %d do something, want %d", n, got, rest)
		}
		if got := left(h); got != 50 {
			t.Errorf("fuse of %d: a clone behind a crash has one: %d", n, got)
		}
		if got := left(k); got != 7 {
			t.Errorf("fuse of %d: a clone's own one of 7 lets %d do something", n, got)
		}
	}
	f := files(t)
	f.Clone().Fuse(0)
	if got := left(f); got != 50 {
		t.Error("a clone's fuse is its first one's:", got)
	}
}

func TestCallsOfNil(t *testing.T) {
	var f *FS
	for _, path := range []string{"a", "", "A"} {
		want(t, f.Create(path), api.ErrArg)
		want(t, f.Append(path, []byte("x")), api.ErrArg)
		want(t, f.Append(path, nil), api.ErrArg)
		want(t, f.Sync(path), api.ErrArg)
		want(t, f.Rename(path, "b"), api.ErrArg)
		want(t, f.Link(path, "b"), api.ErrArg)
		want(t, f.Remove(path), api.ErrArg)
		if b, e := f.Read(path); len(b) != 0 || e != api.ErrArg {
			t.Error(b, e)
		}
		if l := f.List(path); len(l) != 0 {
			t.Error(l)
		}
	}
	want(t, f.SyncDir(), api.ErrArg)
	counts(t, f, 0, 0)
	f.Crash(1, 1)
	f.Fuse(0)
	want(t, f.SyncDir(), api.ErrArg)
	if f.Clone() != nil {
		t.Error("a clone of nil")
	}
}

func TestOneThatNewDidNotMakeHasNoRoom(t *testing.T) {
	for _, f := range []*FS{{}, (&FS{}).Clone()} {
		has(t, f)
		counts(t, f, 0, 0)
		ok(t, f.SyncDir(), f.Create("a"), f.Link("a", "b"), f.Rename("b", "c"), f.Append("a", nil))
		want(t, f.Append("a", []byte("x")), api.ErrFull)
		has(t, f, "a", "", "c", "")
		f.Crash(1, 1)
		has(t, f, "a", "")
	}
	f := &FS{}
	f.Fuse(0)
	f.Crash(1, 1)
	has(t, f)
	ok(t, f.Create("a"))
}

// P6.6

func TestWhatWasMadeToStayIsThereBehindAnyCrash(t *testing.T) {
	f := New(100)
	ok(t, f.Create("a"), f.Append("a", []byte("kept")), f.Sync("a"), f.SyncDir())
	ok(t, f.Append("a", []byte("more")), f.Create("b"), f.Append("b", []byte("b")), f.Link("a", "c"), f.Rename("b", "d"), f.Remove("c"))
	for changes := -1; changes < 8; changes++ {
		for n := -1; n < 9; n++ {
			g := f.Clone()
			g.Crash(changes, n)
			if b, e := g.Read("a"); !strings.HasPrefix(string(b), "kept") || !strings.HasPrefix("keptmore", string(b)) || e != api.OK {
				t.Errorf("Crash(%d, %d) leaves %q, %d", changes, n, b, e)
			}
		}
	}
}

func TestAFileRenamedOverAnotherOneLeavesTheOneOrTheOther(t *testing.T) {
	f := New(100)
	ok(t, f.Create("list"), f.Append("list", []byte("old")), f.Sync("list"), f.SyncDir())
	ok(t, f.Create("tmp"), f.Append("tmp", []byte("newer")), f.Sync("tmp"), f.Rename("tmp", "list"))
	left := map[string]int{}
	for changes := -1; changes < 4; changes++ {
		for n := -1; n < 9; n++ {
			g := f.Clone()
			g.Crash(changes, n)
			b, _ := g.Read("list")
			left[string(b)]++
			if string(b) != "old" && string(b) != "newer" {
				t.Errorf("Crash(%d, %d) leaves %q", changes, n, b)
			}
		}
	}
	if left["old"] != 30 || left["newer"] != 20 {
		t.Error(left)
	}
	ok(t, f.SyncDir())
	f.Crash(0, 0)
	has(t, f, "list", "newer")
}

// Rule 4: what is handed in, and what is told.

// scribble changes all of a list, the room behind its end included.
func scribble(b []byte) {
	for i := range b[:cap(b)] {
		b[:cap(b)][i] ^= 255
	}
}

func TestAppendNeitherChangesNorKeepsWhatIsHandedIn(t *testing.T) {
	f := New(1000)
	ok(t, f.Create("a"), f.Create("b"))
	whole := []byte("0123456789")
	part := whole[:4]
	ok(t, f.Append("a", part), f.Append("b", part[:2]), f.Append("a", part[1:3]), f.Append("b", []byte("x")))
	if string(whole) != "0123456789" {
		t.Errorf("what was handed in was changed: %q", whole)
	}
	scribble(whole)
	has(t, f, "a", "012312", "b", "01x")

	whole = []byte("0123456789")
	ok(t, f.Create("once"), f.Append("once", whole[2:5]))
	scribble(whole)
	if b, _ := f.Read("once"); string(b) != "234" {
		t.Errorf("what was handed in was kept: %q", b)
	}
}

func TestReadIsNewMemory(t *testing.T) {
	f := files(t)
	was := told(files(t))
	first, _ := f.Read("a")
	second, _ := f.Read("l")
	scribble(first)
	if string(second) != "xyzuv" {
		t.Errorf("two answers share memory: %q", second)
	}
	_ = append(second, "beyond"...)
	scribble(second)
	if told(f) != was {
		t.Error("whoever changes an answer changes the files")
	}
	third, _ := f.Read("a")
	ok(t, f.Append("a", []byte("1")))
	f.Crash(0, 0)
	if string(third) != "xyzuv" {
		t.Errorf("what was told changed: %q", third)
	}
}

func TestListIsNewMemory(t *testing.T) {
	f := files(t)
	first, second := f.List(""), f.List("")
	first[0] = "other"
	_ = append(first[:1], "more", "still")
	if !slices.Equal(second, []string{"a", "d", "l"}) || !slices.Equal(f.List(""), []string{"a", "d", "l"}) {
		t.Error(second, f.List(""))
	}
}

// A model by the document's words: it keeps what was done as functions of paths, and files as texts by number.

type modelFile struct {
	text  string
	stays int
}

type model struct {
	room  int
	files []modelFile
	now   map[string]int
	stay  map[string]int
	log   []func(map[string]int)
	fuse  int // below 0: none
}

func newModel(room int) *model {
	return &model{room: room, now: map[string]int{}, stay: map[string]int{}, fuse: -1}
}

func (m *model) clone() *model {
	return &model{m.room, slices.Clone(m.files), maps.Clone(m.now), maps.Clone(m.stay), slices.Clone(m.log), m.fuse}
}

func (m *model) used() int {
	n := 0
	for i, f := range m.files {
		for _, at := range m.now {
			if at == i {
				n += len(f.text)
				break
			}
		}
	}
	return n
}

func (m *model) change(do func(map[string]int)) api.Errno {
	do(m.now)
	m.log = append(m.log, do)
	return api.OK
}

func (m *model) crash(changes, n int) {
	m.fuse = -1
	for i, do := range m.log {
		if i < changes {
			do(m.stay)
		}
	}
	m.log = nil
	m.now = maps.Clone(m.stay)
	for i, f := range m.files {
		for len(f.text) > f.stays+max(n, 0) {
			f.text = f.text[:len(f.text)-1]
		}
		m.files[i] = modelFile{f.text, len(f.text)}
	}
}

// may is whether a path of those that the walk takes may be: only the empty one and those with capitals may not.
func may(path string) bool { return path != "" && strings.ToLower(path) == path }

// call does one call by its name on the model.
func (m *model) call(name, path, to, text string) api.Errno {
	if m.fuse == 0 {
		return api.ErrFull
	}
	if m.fuse > 0 {
		m.fuse--
	}
	at, is := m.now[path]
	_, there := m.now[to]
	if name == "create" {
		switch {
		case !may(path):
			return api.ErrPath
		case is:
			return api.ErrThere
		}
		m.files = append(m.files, modelFile{})
		n := len(m.files) - 1
		return m.change(func(p map[string]int) { p[path] = n })
	}
	if name == "syncdir" {
		m.stay, m.log = maps.Clone(m.now), nil
		return api.OK
	}
	if !is {
		return api.ErrNone
	}
	switch name {
	case "append":
		if text != "" && m.used()+len(text) > m.room {
			return api.ErrFull
		}
		m.files[at].text += text
	case "sync":
		m.files[at].stays = len(m.files[at].text)
	case "remove":
		return m.change(func(p map[string]int) { delete(p, path) })
	case "rename":
		if !may(to) {
			return api.ErrPath
		}
		return m.change(func(p map[string]int) {
			n := p[path]
			delete(p, path)
			p[to] = n
		})
	case "link":
		if !may(to) {
			return api.ErrPath
		}
		if there {
			return api.ErrThere
		}
		return m.change(func(p map[string]int) { p[to] = p[path] })
	}
	return api.OK
}

// real does the same call on files.
func real(f *FS, name, path, to, text string) api.Errno {
	switch name {
	case "create":
		return f.Create(path)
	case "append":
		return f.Append(path, []byte(text))
	case "sync":
		return f.Sync(path)
	case "remove":
		return f.Remove(path)
	case "rename":
		return f.Rename(path, to)
	case "link":
		return f.Link(path, to)
	}
	return f.SyncDir()
}

// held tells where files aren't as the model is.
func held(t *testing.T, f *FS, m *model) {
	t.Helper()
	var paths []string
	for path := range m.now {
		paths = append(paths, path)
	}
	sort.Strings(paths)
	if l := f.List(""); !slices.Equal(l, paths) || f.Used() != m.used() || f.Pending() != len(m.log) {
		t.Fatalf("List %q, Used %d, Pending %d, want %q, %d, %d", l, f.Used(), f.Pending(), paths, m.used(), len(m.log))
	}
	for _, path := range paths {
		if b, e := f.Read(path); !bytes.Equal(b, []byte(m.files[m.now[path]].text)) || e != api.OK {
			t.Fatalf("Read(%q) = %q, %d, want %q", path, b, e, m.files[m.now[path]].text)
		}
	}
}

func TestAnyCallsAreAsTheModelIs(t *testing.T) {
	names := []string{"create", "create", "append", "append", "append", "sync", "rename", "link", "remove", "syncdir"}
	paths := []string{"a", "b", "c", "d/e", "f.0", "A", ""}
	answers := map[api.Errno]int{}
	for seed := range int64(300) {
		r := rand.New(rand.NewSource(seed))
		room := r.Intn(60)
		f, m := New(room), newModel(room)
		for range 200 {
			switch r.Intn(40) {
			case 0:
				changes, n := r.Intn(8)-1, r.Intn(6)-1
				f.Crash(changes, n)
				m.crash(changes, n)
			case 1:
				// The one that goes on is the clone or the first one; what the other one does must not matter.
				g, gm := f.Clone(), m.clone()
				if r.Intn(2) == 0 {
					f, g, m, gm = g, f, gm, m
				}
				g.Crash(2, 1)
				gm.crash(2, 1)
				held(t, g, gm)
				g.Append("a", []byte("lost"))
				g.Create("b")
			case 2:
				n := r.Intn(12) - 1
				f.Fuse(n)
				m.fuse = max(n, 0)
			default:
				name, path, to := names[r.Intn(len(names))], paths[r.Intn(len(paths))], paths[r.Intn(len(paths))]
				text := longest[:r.Intn(9)]
				got, e := real(f, name, path, to, text), m.call(name, path, to, text)
				if got != e {
					t.Fatalf("%s of %q, %q, %q answered %d, want %d", name, path, to, text, got, e)
				}
				answers[e]++
			}
			held(t, f, m)
		}
	}
	for _, e := range []api.Errno{api.OK, api.ErrNone, api.ErrThere, api.ErrFull, api.ErrPath} {
		if answers[e] < 500 {
			t.Errorf("the walk met %d only %d times", e, answers[e])
		}
	}
}
