package chunks

import (
	"crypto/sha256"
	"slices"
	"strconv"
	"strings"
	"testing"
	"unsafe"

	"pleach/api"
	"pleach/disk"
)

// told is what a store keeps, as a text: its root, and its chunks by rising
// fingerprints.
func told(root string, chunks ...string) string {
	byPrint := map[string]string{}
	for _, c := range chunks {
		byPrint[printOf(c)] = c
	}
	prints := []string{}
	for p := range byPrint {
		prints = append(prints, p)
	}
	slices.Sort(prints)
	text := strconv.Quote(root)
	for _, p := range prints {
		text += " " + strconv.Quote(byPrint[p])
	}
	return text
}

// tell is told by a store itself.
func tell(t *testing.T, s *Store) string {
	t.Helper()
	text := strconv.Quote(s.Root())
	for _, p := range s.Prints() {
		c, ok := s.Get(p)
		if !ok || printOf(c) != p {
			t.Fatalf("chunk %q of the fingerprint %x: %v", c, p, ok)
		}
		text += " " + strconv.Quote(c)
	}
	return text
}

// printOf is a fingerprint by other means.
func printOf(s string) string {
	sum := sha256.Sum256([]byte(s))
	return string(sum[:])
}

func printsOf(chunks ...string) []string {
	var l []string
	for _, c := range chunks {
		l = append(l, printOf(c))
	}
	return l
}

func newDisk(t *testing.T, room int) *disk.Disk {
	t.Helper()
	d, errno := disk.New(room)
	if errno != api.OK {
		t.Fatal(errno)
	}
	return d
}

func open(t *testing.T, d *disk.Disk) *Store {
	t.Helper()
	s, errno := Open(d)
	if errno != api.OK || s == nil {
		t.Fatalf("Open: %v, %d", s, errno)
	}
	return s
}

func put(t *testing.T, s *Store, chunks ...string) {
	t.Helper()
	for _, c := range chunks {
		if p, errno := s.Put(c); errno != api.OK || p != printOf(c) {
			t.Fatalf("Put(%.20q): %x, %d", c, p, errno)
		}
	}
}

func commit(t *testing.T, s *Store, root string, chunks ...string) {
	t.Helper()
	put(t, s, chunks...)
	if errno := s.Commit(root); errno != api.OK {
		t.Fatalf("Commit(%.20q): %d", root, errno)
	}
}

func expect(t *testing.T, s *Store, root string, chunks ...string) {
	t.Helper()
	if got, want := tell(t, s), told(root, chunks...); got != want {
		t.Fatalf("kept: %s, not %s", got, want)
	}
}

func expectNew(t *testing.T, s *Store, chunks ...string) {
	t.Helper()
	if len(s.fresh) != len(chunks) {
		t.Errorf("%d chunks are new, not %d", len(s.fresh), len(chunks))
	}
	for _, c := range chunks {
		if got, ok := s.Get(printOf(c)); !ok || got != c {
			t.Errorf("Get of the new %.20q: %.20q, %v", c, got, ok)
		}
	}
}

func expectNone(t *testing.T, s *Store, chunks ...string) {
	t.Helper()
	for _, c := range chunks {
		if got, ok := s.Get(printOf(c)); ok || got != "" {
			t.Errorf("Get of %.20q, which isn't there: %.20q, %v", c, got, ok)
		}
	}
}

// P6.1: the chapter's example.
func TestExample(t *testing.T) {
	d := newDisk(t, 10000)
	s := open(t, d)
	put(t, s, "abc")
	commit(t, s, "r")
	d.Fall(nil)
	expect(t, open(t, d), "r", "abc")
}

// P6.1: of a nil store; of a nil disk. (P0: nothing panics.)
func TestNil(t *testing.T) {
	if s, errno := Open(nil); s != nil || errno != api.ErrDown {
		t.Errorf("Open(nil): %v, %d", s, errno)
	}
	var s *Store
	long := strings.Repeat("x", api.MaxChunk+1)
	for _, text := range []string{"", "abc", long} {
		if p, errno := s.Put(text); p != "" || errno != api.ErrDown {
			t.Errorf("Put: %q, %d", p, errno)
		}
		if errno := s.Commit(text); errno != api.ErrDown {
			t.Errorf("Commit: %d", errno)
		}
		if c, ok := s.Get(printOf(text)); c != "" || ok {
			t.Errorf("Get: %q, %v", c, ok)
		}
	}
	for _, keep := range [][]string{nil, {""}, {printOf("abc")}} {
		if errno := s.Collect(keep); errno != api.ErrDown {
			t.Errorf("Collect: %d", errno)
		}
	}
	s.Drop()
	if s.Root() != "" || len(s.Prints()) != 0 || !s.Down() {
		t.Error("Root, Prints or Down")
	}
}

// P0: a store that no Open made does not panic either.
func TestZeroStore(t *testing.T) {
	s := &Store{}
	put(t, s, "abc", "")
	expectNew(t, s, "abc", "")
	expect(t, s, "")
	if errno := s.Collect(nil); errno != api.ErrDown || !s.Down() {
		t.Errorf("Collect: %d", errno)
	}
	s = &Store{}
	put(t, s, "abc")
	if errno := s.Commit("r"); errno != api.ErrDown || !s.Down() {
		t.Errorf("Commit: %d", errno)
	}
	expectNew(t, s)
	expect(t, s, "")
}

// P6.1: of an empty disk a store without chunks, whose root is empty; also
// where it has no room at all.
func TestEmptyDisk(t *testing.T) {
	for _, room := range []int{0, 10000} {
		d := newDisk(t, room)
		s := open(t, d)
		expect(t, s, "")
		expectNew(t, s)
		if s.Down() || d.Used() != 0 {
			t.Error("down, or something was written")
		}
	}
	s := open(t, &disk.Disk{})
	expect(t, s, "")
	if errno := s.Commit("r"); errno != api.ErrFull {
		t.Errorf("Commit without room: %d", errno)
	}
}

// P6.1: a disk that is down, with whatever on it: ErrDown, and nil.
func TestOpenDown(t *testing.T) {
	for _, name := range []string{"", logName, spareName, "other"} {
		d := newDisk(t, 1000)
		if name != "" {
			d.Append(name, "junk")
		}
		d.Fuel(0)
		d.Append(logName, "")
		if s, errno := Open(d); s != nil || errno != api.ErrDown {
			t.Errorf("with %q: %v, %d", name, s, errno)
		}
	}
}

// P6.1: chunks at their limits; a chunk that is there isn't new.
func TestPut(t *testing.T) {
	d := newDisk(t, 1<<23)
	s := open(t, d)
	most := strings.Repeat("m", api.MaxChunk)
	put(t, s, "", most, "abc", "abc", "")
	expectNew(t, s, "", most, "abc")
	expect(t, s, "")
	if p, errno := s.Put(most + "m"); p != "" || errno != api.ErrLimit {
		t.Errorf("Put of too long a chunk: %q, %d", p, errno)
	}
	expectNew(t, s, "", most, "abc")
	commit(t, s, "r")
	expect(t, s, "r", "", most, "abc")
	expectNew(t, s)
	put(t, s, "abc", "", most)
	expectNew(t, s)
	put(t, s, "de")
	expectNew(t, s, "de")
	s.Drop()
	expectNew(t, s)
	expectNone(t, s, "de", "x")
	expect(t, s, "r", "", most, "abc")
	expect(t, open(t, d), "r", "", most, "abc")
	for _, p := range []string{"", "abc", printOf("abc")[:31], printOf("abc") + "\x00"} {
		if c, ok := s.Get(p); c != "" || ok {
			t.Errorf("Get(%q): %q, %v", p, c, ok)
		}
	}
}

// P6.1: roots at their limits; in any case nothing is new behind a Commit.
func TestCommit(t *testing.T) {
	d := newDisk(t, 1<<23)
	s := open(t, d)
	most := strings.Repeat("r", api.MaxChunk)
	commit(t, s, most, "one", "two")
	expect(t, s, most, "one", "two")
	expect(t, open(t, d), most, "one", "two")
	put(t, s, "three")
	if errno := s.Commit(most + "r"); errno != api.ErrLimit {
		t.Errorf("Commit of too long a root: %d", errno)
	}
	expectNew(t, s)
	expectNone(t, s, "three")
	expect(t, s, most, "one", "two")
	expect(t, open(t, d), most, "one", "two")
	if s.Down() {
		t.Error("down")
	}
	commit(t, s, "")
	expect(t, s, "", "one", "two")
	commit(t, s, "", "three")
	expect(t, open(t, d), "", "one", "two", "three")
	// A root that is also a chunk, and one whose bytes look like frames.
	odd := framed(rootTag, "x") + framed(chunkTag, "y")
	commit(t, s, odd, odd)
	expect(t, open(t, d), odd, "one", "two", "three", odd)
	expectNone(t, s, "y")
}

// P6.1: Collect keeps just what it is told, and what is new stays so.
func TestCollect(t *testing.T) {
	d := newDisk(t, 10000)
	s := open(t, d)
	if errno := s.Collect(nil); errno != api.OK {
		t.Errorf("Collect of an empty store: %d", errno)
	}
	expect(t, open(t, d), "")
	commit(t, s, "r", "one", "two", "three", "")
	put(t, s, "four")
	for _, keep := range [][]string{{""}, printsOf("one", "none"), printsOf("four"), {"x"}, printsOf("two", "four", "two")} {
		if errno := s.Collect(keep); errno != api.ErrLost {
			t.Errorf("Collect(%x): %d", keep, errno)
		}
		expect(t, s, "r", "one", "two", "three", "")
		expect(t, open(t, d), "r", "one", "two", "three", "")
		expectNew(t, s, "four")
	}
	if errno := s.Collect(printsOf("two", "", "two", "one", "")); errno != api.OK {
		t.Errorf("Collect: %d", errno)
	}
	expect(t, s, "r", "one", "two", "")
	expect(t, open(t, d), "r", "one", "two", "")
	expectNew(t, s, "four")
	expectNone(t, s, "three")
	if errno := s.Collect(printsOf("three")); errno != api.ErrLost {
		t.Errorf("Collect of what was collected: %d", errno)
	}
	put(t, s, "three", "one")
	expectNew(t, s, "three", "four")
	if errno := s.Collect(nil); errno != api.OK {
		t.Errorf("Collect of nothing: %d", errno)
	}
	expect(t, s, "r")
	expect(t, open(t, d), "r")
	expectNew(t, s, "three", "four")
	expectNone(t, s, "one", "two", "")
	commit(t, s, "q")
	expect(t, open(t, d), "q", "three", "four")
}

// P6.1: Collect gives room back.
func TestCollectGivesRoom(t *testing.T) {
	d := newDisk(t, 100000)
	s := open(t, d)
	big := strings.Repeat("b", 10000)
	commit(t, s, "r", big, "small")
	if errno := s.Collect(printsOf("small")); errno != api.OK || d.Used() > 100 {
		t.Errorf("Collect: %d, and %d bytes are used", errno, d.Used())
	}
	expect(t, open(t, d), "r", "small")
}

// P6.1: the fingerprints rise.
func TestPrints(t *testing.T) {
	s := open(t, newDisk(t, 100000))
	var want []string
	for i := range 200 {
		c := strconv.Itoa(i)
		want = append(want, printOf(c))
		commit(t, s, "r", c)
	}
	slices.Sort(want)
	put(t, s, "new")
	if got := s.Prints(); !slices.Equal(got, want) {
		t.Errorf("%x", got)
	}
}

// P6.1: the calls of a store that is down, in the chapter's order of errors,
// also when the disk is up again.
func TestDown(t *testing.T) {
	d := newDisk(t, 10000)
	s := open(t, d)
	commit(t, s, "r", "one", "two")
	put(t, s, "three")
	d.Fuel(0)
	if s.Down() {
		t.Error("down ahead of a step")
	}
	put(t, s, "four")
	if errno := s.Collect(printsOf("one")); errno != api.ErrDown || !s.Down() {
		t.Errorf("Collect: %d", errno)
	}
	for range 2 {
		expectNew(t, s, "three", "four")
		expect(t, s, "r", "one", "two")
		if p, errno := s.Put("five"); p != "" || errno != api.ErrDown {
			t.Errorf("Put: %q, %d", p, errno)
		}
		if p, errno := s.Put("one"); p != "" || errno != api.ErrDown {
			t.Errorf("Put of what is there: %q, %d", p, errno)
		}
		if p, errno := s.Put(strings.Repeat("x", api.MaxChunk+1)); p != "" || errno != api.ErrLimit {
			t.Errorf("Put of too long a chunk: %q, %d", p, errno)
		}
		if errno := s.Collect(printsOf("three")); errno != api.ErrLost {
			t.Errorf("Collect of a new chunk: %d", errno)
		}
		if errno := s.Collect(nil); errno != api.ErrDown {
			t.Errorf("Collect: %d", errno)
		}
		d.Fall(nil)
	}
	if errno := s.Commit("q"); errno != api.ErrDown || !s.Down() {
		t.Errorf("Commit: %d", errno)
	}
	expectNew(t, s)
	if errno := s.Commit(strings.Repeat("x", api.MaxChunk+1)); errno != api.ErrLimit {
		t.Errorf("Commit of too long a root: %d", errno)
	}
	s.Drop()
	expect(t, s, "r", "one", "two")
	expect(t, open(t, d), "r", "one", "two")
}

// P6.1: what Commit finds new is gone at ErrDown and at ErrLimit of a store that
// is down too.
func TestDownDropsNew(t *testing.T) {
	for _, root := range []string{"q", strings.Repeat("x", api.MaxChunk+1)} {
		d := newDisk(t, 10000)
		s := open(t, d)
		put(t, s, "one")
		d.Fuel(0)
		s.Collect(nil)
		expectNew(t, s, "one")
		s.Commit(root)
		expectNew(t, s)
		expectNone(t, s, "one")
	}
}

// R4: what is handed in is neither kept nor changed; what is answered is the
// caller's own.
func TestMemory(t *testing.T) {
	s := open(t, newDisk(t, 100000))
	text := []byte("a text of which pieces are put, and one is a root")
	whole := unsafe.String(&text[0], len(text))
	p, _ := s.Put(whole[2:6])
	clear(text[2:6])
	if c, _ := s.Get(p); c != "text" {
		t.Errorf("the chunk is kept by its caller's memory: %q", c)
	}
	s.Commit(whole[45:])
	clear(text)
	if s.Root() != "root" {
		t.Errorf("the root is kept by its caller's memory: %q", s.Root())
	}
	commit(t, s, "root", "other")
	print := []byte(p)
	keep := []string{printOf("other"), unsafe.String(&print[0], len(print))}
	if errno := s.Collect(keep); errno != api.OK || keep[0] != printOf("other") || keep[1] != p {
		t.Errorf("Collect: %d, %x", errno, keep)
	}
	clear(print)
	clear(keep)
	expect(t, s, "root", "text", "other")
	clear(s.Prints())
	expect(t, s, "root", "text", "other")
}
