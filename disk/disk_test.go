package disk

import (
	"math"
	"slices"
	"strings"
	"testing"
	"unsafe"

	"pleach/api"
)

// fresh answers a new disk of that room.
func fresh(t *testing.T, room int) *Disk {
	t.Helper()
	d, errno := New(room)
	if d == nil || errno != api.OK {
		t.Fatalf("New(%d): %v, %d", room, d, errno)
	}
	return d
}

// with answers a new disk with files a, b and c: of a all bytes are pending,
// of b some, of c none.
func with(t *testing.T) *Disk {
	t.Helper()
	d := fresh(t, 100)
	say(t, d.Append("a", "aa"), api.OK)
	say(t, d.Append("b", "bb"), api.OK)
	say(t, d.Sync("b"), api.OK)
	say(t, d.Append("b", "BBB"), api.OK)
	say(t, d.Append("c", "c"), api.OK)
	say(t, d.Sync("c"), api.OK)
	return d
}

func say(t *testing.T, got, want api.Errno) {
	t.Helper()
	if got != want {
		t.Errorf("%d, want %d", got, want)
	}
}

// holds fails unless the disk, which is up, has just these files: names and
// bytes by turns, names rising.
func holds(t *testing.T, d *Disk, want ...string) {
	t.Helper()
	var got []string
	used := 0
	for _, name := range d.Names() {
		s, errno := d.Read(name)
		say(t, errno, api.OK)
		got = append(got, name, s)
		used += len(s)
	}
	if !slices.Equal(got, want) || d.Used() != used {
		t.Errorf("%q, %d used, want %q", got, d.Used(), want)
	}
}

// steps answers all four steps, each done with that name, at every place that
// takes one.
func steps(d *Disk, name, other string) map[string]func() api.Errno {
	return map[string]func() api.Errno{
		"Append":      func() api.Errno { return d.Append(name, "") },
		"Sync":        func() api.Errno { return d.Sync(name) },
		"Rename from": func() api.Errno { return d.Rename(name, other) },
		"Rename to":   func() api.Errno { return d.Rename(other, name) },
		"Delete":      func() api.Errno { return d.Delete(name) },
	}
}

// zeros answers a text of one byte more than a disk may have room for, of
// memory that is never touched.
func zeros() string {
	b := make([]byte, 1<<30+1)
	return unsafe.String(&b[0], len(b))
}

// hasRoom fails unless the disk, which is empty, has room for n bytes of a
// text and no more. Without fuel what fits puts it down, so that none is
// copied.
func hasRoom(t *testing.T, d *Disk, text string, n int) {
	t.Helper()
	say(t, d.Append("a", text[:n+1]), api.ErrFull)
	d.Fuel(0)
	say(t, d.Append("a", text[:n]), api.ErrDown)
	d.Fall(nil)
	holds(t, d)
}

// P4.1: the chapter's example.
func TestExample(t *testing.T) {
	d := fresh(t, 10)
	say(t, d.Append("a", "xy"), api.OK)
	say(t, d.Sync("a"), api.OK)
	say(t, d.Append("a", "z"), api.OK)
	holds(t, d, "a", "xyz")
	d.Fall(nil)
	holds(t, d, "a", "xy")
}

// P4.1: New at the edges of the room.
func TestNew(t *testing.T) {
	for _, room := range []int{math.MinInt, -1 << 30, -2, -1, 1<<30 + 1, 1<<31 - 1, 1 << 31, 1 << 32, 1<<32 + 5, math.MaxInt} {
		if d, errno := New(room); d != nil || errno != api.ErrArg {
			t.Errorf("New(%d): %v, %d", room, d, errno)
		}
	}
	text := zeros()
	for _, room := range []int{0, 1, 2, 1000, 1<<30 - 1, 1 << 30} {
		d := fresh(t, room)
		if d.Down() || d.Used() != 0 || len(d.Names()) != 0 {
			t.Errorf("New(%d): %v %d %v", room, d.Down(), d.Used(), d.Names())
		}
		hasRoom(t, d, text, room)
	}
}

// P4.1: two disks have nothing to do with each other.
func TestNewApart(t *testing.T) {
	d, other := with(t), fresh(t, 3)
	say(t, other.Append("a", "x"), api.OK)
	other.Fuel(0)
	say(t, other.Sync("a"), api.ErrDown)
	say(t, d.Delete("c"), api.OK)
	holds(t, d, "a", "aa", "b", "bbBBB")
	if d.Down() || !other.Down() || other.Used() != 1 {
		t.Error(d.Down(), other.Down(), other.Used())
	}
}

// P4.1: every call of a nil disk.
func TestNil(t *testing.T) {
	var d *Disk
	for _, name := range []string{"a", "", "A"} {
		for call, step := range steps(d, name, "b") {
			if got := step(); got != api.ErrDown {
				t.Errorf("%s of %q: %d", call, name, got)
			}
		}
		if s, errno := d.Read(name); s != "" || errno != api.ErrDown {
			t.Errorf("Read(%q): %q, %d", name, s, errno)
		}
	}
	say(t, d.Append("a", "xyz"), api.ErrDown)
	d.Room(5)
	d.Fuel(5)
	d.Fall(nil)
	d.Fall([]int{1, 2, 3})
	if len(d.Names()) != 0 || d.Used() != 0 || !d.Down() {
		t.Error(d.Names(), d.Used(), d.Down())
	}
}

// P0: a Disk that New didn't make is like an empty one without room.
func TestZero(t *testing.T) {
	d := new(Disk)
	say(t, d.Append("a", "x"), api.ErrFull)
	say(t, d.Sync("a"), api.ErrNone)
	say(t, d.Rename("a", "b"), api.ErrNone)
	say(t, d.Delete("a"), api.ErrNone)
	d.Fall([]int{1})
	holds(t, d)
	say(t, d.Append("a", ""), api.OK)
	d.Room(2)
	say(t, d.Append("a", "xy"), api.OK)
	holds(t, d, "a", "xy")
}

// wrongNames answers texts that name no file.
func wrongNames() []string {
	l := []string{"", strings.Repeat("a", 41), strings.Repeat("a", 256+40), strings.Repeat("-", 1<<16+1), "ä", "a\xc3", "\xff"}
	for b := range 256 {
		if !strings.Contains("abcdefghijklmnopqrstuvwxyz0123456789-.", string([]byte{byte(b)})) {
			l = append(l, string([]byte{byte(b)}), "a"+string([]byte{byte(b)}), string([]byte{byte(b)})+"a", "a"+string([]byte{byte(b)})+"a")
		}
	}
	return append(l, strings.Repeat("a", 39)+"A", "/", "a/b", "a b", "a_b", " a", "a\n")
}

// P4.1: what is no name, at every call that takes one, whether the other name
// is of a file or not; no fuel is used for it.
func TestWrongNames(t *testing.T) {
	d := with(t)
	d.Fuel(0)
	for _, name := range wrongNames() {
		for _, other := range []string{"a", "none", "", "B", name} {
			for call, step := range steps(d, name, other) {
				if got := step(); got != api.ErrArg {
					t.Errorf("%s of %q, beside %q: %d", call, name, other, got)
				}
			}
		}
		say(t, d.Append(name, strings.Repeat("x", 1000)), api.ErrArg)
		if s, errno := d.Read(name); s != "" || errno != api.ErrArg {
			t.Errorf("Read(%q): %q, %d", name, s, errno)
		}
	}
	if d.Down() {
		t.Error("down")
	}
	holds(t, d, "a", "aa", "b", "bbBBB", "c", "c")
}

// P4.1: names of each letter that may be, and of as many as may be.
func TestRightNames(t *testing.T) {
	names := []string{strings.Repeat("a", 40), strings.Repeat("z", 39), strings.Repeat(".", 40), "-", ".", "..", "-.-", "0", "9", "a.b-c.0", "a", "z"}
	for _, b := range "abcdefghijklmnopqrstuvwxyz0123456789-." {
		names = append(names, string(b), "x"+string(b), string(b)+"x")
	}
	slices.Sort(names)
	names = slices.Compact(names)
	d := fresh(t, 1000)
	for i := range names {
		// Backwards, so that the order isn't that in which they come.
		say(t, d.Append(names[len(names)-1-i], "x"), api.OK)
	}
	if got := d.Names(); !slices.Equal(got, names) || d.Used() != len(names) {
		t.Errorf("%q, %d", got, d.Used())
	}
	for _, name := range names {
		say(t, d.Sync(name), api.OK)
		say(t, d.Rename(name, "tmp.tmp"), api.OK)
		say(t, d.Rename("tmp.tmp", name), api.OK)
		if s, errno := d.Read(name); s != "x" || errno != api.OK {
			t.Errorf("Read(%q): %q, %d", name, s, errno)
		}
		say(t, d.Delete(name), api.OK)
	}
	holds(t, d)
}

// P4.1: Append up to the room, one byte beyond it, and with nothing.
func TestAppendRoom(t *testing.T) {
	d := fresh(t, 5)
	say(t, d.Append("a", "123456"), api.ErrFull)
	holds(t, d)
	say(t, d.Append("a", "123"), api.OK)
	say(t, d.Append("b", "123"), api.ErrFull)
	say(t, d.Append("a", "123"), api.ErrFull)
	holds(t, d, "a", "123")
	say(t, d.Append("b", "45"), api.OK)
	say(t, d.Append("a", "6"), api.ErrFull)
	say(t, d.Append("a", ""), api.OK)
	say(t, d.Append("c", ""), api.OK)
	holds(t, d, "a", "123", "b", "45", "c", "")
	d.Room(4)
	for _, name := range []string{"a", "b", "c", "new"} {
		say(t, d.Append(name, ""), api.ErrFull)
		say(t, d.Append(name, "x"), api.ErrFull)
	}
	holds(t, d, "a", "123", "b", "45", "c", "")
	none := fresh(t, 0)
	say(t, none.Append("a", "x"), api.ErrFull)
	say(t, none.Append("a", ""), api.OK)
	holds(t, none, "a", "")
}

// P4.1: what is deleted, renamed upon or lost at a fall makes room.
func TestRoomAnew(t *testing.T) {
	d := fresh(t, 6)
	say(t, d.Append("a", "123"), api.OK)
	say(t, d.Append("b", "456"), api.OK)
	say(t, d.Append("c", "x"), api.ErrFull)
	say(t, d.Rename("a", "b"), api.OK)
	say(t, d.Append("c", "7890"), api.ErrFull)
	say(t, d.Append("c", "789"), api.OK)
	holds(t, d, "b", "123", "c", "789")
	say(t, d.Delete("b"), api.OK)
	say(t, d.Append("d", "abcd"), api.ErrFull)
	say(t, d.Append("d", "abc"), api.OK)
	d.Fall([]int{1, 2})
	holds(t, d, "c", "7", "d", "ab")
	say(t, d.Append("d", "xyzw"), api.ErrFull)
	say(t, d.Append("d", "xyz"), api.OK)
	holds(t, d, "c", "7", "d", "abxyz")
}

// P4.1: bytes of all kinds are read as they were appended, and what is
// appended later isn't seen in what was read.
func TestReadBytes(t *testing.T) {
	d := fresh(t, 10000)
	all := ""
	for b := range 256 {
		all += string([]byte{byte(b)})
		say(t, d.Append("a", all[b:]), api.OK)
	}
	first, _ := d.Read("a")
	say(t, d.Append("a", all), api.OK)
	d.Fall([]int{3})
	say(t, d.Append("a", "else"), api.OK)
	if second, _ := d.Read("a"); first != all || second != "\x00\x01\x02else" {
		t.Errorf("%q, then %q", first, second)
	}
}

// P4.1: steps and Read of files that are not there.
func TestNone(t *testing.T) {
	d := with(t)
	d.Fuel(0)
	for _, name := range []string{"d", "0", "aa", "a.", strings.Repeat("a", 40)} {
		say(t, d.Sync(name), api.ErrNone)
		say(t, d.Rename(name, "a"), api.ErrNone)
		say(t, d.Rename(name, name), api.ErrNone)
		say(t, d.Rename(name, "new"), api.ErrNone)
		say(t, d.Delete(name), api.ErrNone)
		if s, errno := d.Read(name); s != "" || errno != api.ErrNone {
			t.Errorf("Read(%q): %q, %d", name, s, errno)
		}
	}
	holds(t, d, "a", "aa", "b", "bbBBB", "c", "c")
}

// P4.1: a file that was renamed or deleted is there no more under its name.
func TestGone(t *testing.T) {
	d := with(t)
	say(t, d.Rename("a", "d"), api.OK)
	say(t, d.Delete("b"), api.OK)
	for _, name := range []string{"a", "b"} {
		say(t, d.Sync(name), api.ErrNone)
		say(t, d.Delete(name), api.ErrNone)
		say(t, d.Rename(name, "e"), api.ErrNone)
	}
	holds(t, d, "c", "c", "d", "aa")
	say(t, d.Append("a", "new"), api.OK)
	say(t, d.Append("b", ""), api.OK)
	holds(t, d, "a", "new", "b", "", "c", "c", "d", "aa")
	d.Fall(nil)
	holds(t, d, "a", "", "b", "", "c", "c", "d", "")
}

// P4.1: Rename onto itself, onto another file, and to a new name, with what is
// sure and what is pending.
func TestRename(t *testing.T) {
	for _, c := range []struct {
		from, to     string
		there, later []string
	}{
		{"a", "a", []string{"a", "aa", "b", "bbBBB", "c", "c"}, []string{"a", "", "b", "bb", "c", "c"}},
		{"b", "b", []string{"a", "aa", "b", "bbBBB", "c", "c"}, []string{"a", "", "b", "bb", "c", "c"}},
		{"b", "a", []string{"a", "bbBBB", "c", "c"}, []string{"a", "bb", "c", "c"}},
		{"a", "b", []string{"b", "aa", "c", "c"}, []string{"b", "", "c", "c"}},
		{"a", "c", []string{"b", "bbBBB", "c", "aa"}, []string{"b", "bb", "c", ""}},
		{"c", "b", []string{"a", "aa", "b", "c"}, []string{"a", "", "b", "c"}},
		{"b", "z", []string{"a", "aa", "c", "c", "z", "bbBBB"}, []string{"a", "", "c", "c", "z", "bb"}},
		{"c", "0", []string{"0", "c", "a", "aa", "b", "bbBBB"}, []string{"0", "c", "a", "", "b", "bb"}},
	} {
		d := with(t)
		say(t, d.Rename(c.from, c.to), api.OK)
		holds(t, d, c.there...)
		d.Fall(nil)
		holds(t, d, c.later...)
	}
}

// P4.2: which files there are is sure at once.
func TestNamesAreSure(t *testing.T) {
	d := with(t)
	say(t, d.Append("new", "x"), api.OK)
	say(t, d.Delete("c"), api.OK)
	say(t, d.Rename("b", "z"), api.OK)
	d.Fall(nil)
	holds(t, d, "a", "", "new", "", "z", "bb")
}

// R4: what is answered is the caller's own, what is handed in stays as it was.
func TestMemory(t *testing.T) {
	d := with(t)
	names := d.Names()
	names[0], names[1] = "x", "y"
	_ = append(names[:1], "z")
	keep := []int{1, 2, -3, 9}
	d.Fall(keep)
	if !slices.Equal(keep, []int{1, 2, -3, 9}) {
		t.Error(keep)
	}
	keep[0] = 0
	holds(t, d, "a", "a", "b", "bbBB", "c", "c")
	d.Fall(keep)
	holds(t, d, "a", "a", "b", "bbBB", "c", "c")
}
