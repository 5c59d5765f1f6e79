package chunks

import (
	"strconv"
	"strings"
	"testing"

	"pleach/api"
	"pleach/disk"
)

// A bill counts the room that P6.3 asks for, each chunk and each root once
// alone, however often it was handed in; the disk has just as much.
type bill struct {
	d      *disk.Disk
	chunks map[string]int
	roots  map[string]int
}

func newBill(t *testing.T) *bill {
	b := &bill{newDisk(t, 2000), map[string]int{}, map[string]int{}}
	return b
}

func (b *bill) room() int {
	n := 2000
	for _, counted := range []map[string]int{b.chunks, b.roots} {
		for text := range counted {
			n += 4*len(text) + 100
		}
	}
	return n
}

func (b *bill) commit(t *testing.T, s *Store, root string, chunks ...string) {
	t.Helper()
	for _, c := range chunks {
		b.chunks[c]++
	}
	b.roots[root]++
	b.d.Room(b.room())
	commit(t, s, root, chunks...)
}

// P6.3: the same chunks and roots, kept and collected over and over, need no
// more room than once.
func TestRoomOverAndOver(t *testing.T) {
	long, wide := strings.Repeat("l", 700), strings.Repeat("w", 3000)
	cases := [][]string{
		{}, {""}, {"one"}, {"one", ""}, {"one", "two", "three"}, {long}, {long, "one"},
		{wide}, {wide, long, "one", ""}, {long, long + "1", long + "2", long + "3"},
	}
	for _, chunks := range cases {
		for _, roots := range [][]string{{""}, {"r"}, {"r", "s"}, {long, "r"}, {wide, "r", "r", "r"}, {wide}} {
			b := newBill(t)
			s := open(t, b.d)
			for i := range 120 {
				root := roots[i%len(roots)]
				b.commit(t, s, root, chunks...)
				if i%3 == 0 {
					s = open(t, b.d)
				}
				if i%40 == 39 {
					if errno := s.Collect(nil); errno != api.OK {
						t.Fatalf("Collect: %d", errno)
					}
					expect(t, s, root)
				} else {
					expect(t, s, root, chunks...)
				}
			}
		}
	}
}

// P6.3: what was collected gives its share of the log back, in a store that is
// never opened anew.
func TestRoomOfCollected(t *testing.T) {
	b := newBill(t)
	s := open(t, b.d)
	for range 100 {
		b.commit(t, s, "r", strings.Repeat("one", 200), "two")
		if errno := s.Collect(printsOf("two")); errno != api.OK {
			t.Fatalf("Collect: %d", errno)
		}
	}
	for range 1000 {
		b.commit(t, s, "r")
	}
	expect(t, s, "r", "two")
}

// P6.3: through many Commits and Collects of ever other chunks, with falls at
// any step, and whatever is kept then.
func TestRoomThroughFalls(t *testing.T) {
	for _, size := range []int{0, 1, 2, 3, 5, 8, 12, 18, 25, 33, 40} {
		b := newBill(t)
		s := open(t, b.d)
		for i := range 120 {
			text := strings.Repeat(strconv.Itoa(i), 1+size*size)
			b.d.Fall([]int{i * 7, i * 11})
			s = open(t, b.d)
			b.chunks[text]++
			b.roots["r"+text[:size/2]]++
			b.d.Room(b.room())
			b.d.Fuel(i % 6)
			put(t, s, text)
			if errno := s.Commit("r" + text[:size/2]); errno != api.OK && errno != api.ErrDown {
				t.Fatalf("Commit: %d", errno)
			}
			if i%4 == 3 {
				keep := s.Prints()
				if errno := s.Collect(keep[:len(keep)/2]); errno != api.OK && errno != api.ErrDown {
					t.Fatalf("Collect: %d", errno)
				}
			}
		}
	}
}

// P6.3: the room is less for a time, and then as much as it should be.
func TestRoomComesBack(t *testing.T) {
	for _, roots := range [][]string{{"r"}, {strings.Repeat("r", 400), "q"}} {
		for part := range 20 {
			b := newBill(t)
			s := open(t, b.d)
			b.commit(t, s, "r", "one", strings.Repeat("two", 100))
			for i := range 400 {
				root := roots[i%len(roots)]
				b.roots[root]++
				b.d.Room(b.room() * part / 20)
				before := tell(t, s)
				if errno := s.Commit(root); errno != api.OK && errno != api.ErrFull {
					t.Fatalf("Commit: %d", errno)
				} else if errno == api.ErrFull && tell(t, s) != before {
					t.Fatal("ErrFull, and something has changed")
				}
			}
			b.commit(t, s, "q", "three")
			b.d.Room(b.room())
			if errno := s.Collect(printsOf("one", "three")); errno != api.OK {
				t.Fatalf("Collect: %d", errno)
			}
			expect(t, open(t, b.d), "q", "one", "three")
		}
	}
}

// P6.3: chunks of the greatest length.
func TestRoomOfLongest(t *testing.T) {
	b := newBill(t)
	s := open(t, b.d)
	long := strings.Repeat("l", api.MaxChunk)
	b.commit(t, s, long, long)
	b.commit(t, s, long)
	b.commit(t, s, long)
	if errno := s.Collect(printsOf(long)); errno != api.OK {
		t.Errorf("Collect: %d", errno)
	}
	b.commit(t, s, "r")
	if errno := s.Collect(nil); errno != api.OK {
		t.Errorf("Collect: %d", errno)
	}
	expect(t, open(t, b.d), "r")
}

// P6.1: a disk without room at each call: nothing that is kept has changed, and
// of what is new all is gone behind a Commit, and nothing behind a Collect.
func TestNoRoom(t *testing.T) {
	for _, c := range scenes() {
		refused := 0
		for room := 0; ; room++ {
			d := newDisk(t, 10000)
			c.ready(t, d)
			s := open(t, d)
			before := tell(t, s)
			d.Room(room)
			errno := c.call(s)
			if errno == api.OK {
				if got := tell(t, s); got != c.after {
					t.Errorf("%s: %s, not %s", c.name, got, c.after)
				}
				break
			}
			refused++
			if errno != api.ErrFull || tell(t, s) != before || s.Down() {
				t.Fatalf("%s, room %d: %d, %s", c.name, room, errno, tell(t, s))
			}
			if _, ok := s.Get(printOf("only new")); ok != strings.Contains(c.name, "Collect") {
				t.Fatalf("%s, room %d: new behind it: %v", c.name, room, ok)
			}
			expectNone(t, s, "four", "five")
			if u := open(t, d); tell(t, u) != before {
				t.Fatalf("%s, room %d: opened anew: %s", c.name, room, tell(t, u))
			}
			// With room again the same call is done.
			d.Room(10000)
			if errno := c.call(s); errno != api.OK || tell(t, s) != c.after {
				t.Fatalf("%s, room %d: %d, %s", c.name, room, errno, tell(t, s))
			}
			d.Fall(nil)
			if got := tell(t, open(t, d)); got != c.after {
				t.Fatalf("%s, room %d: behind a fall: %s", c.name, room, got)
			}
		}
		if refused == 0 {
			t.Errorf("%s was never refused", c.name)
		}
	}
}

// P6.1: a store whose disk is full is told whole when it is opened.
func TestOpenWithoutRoom(t *testing.T) {
	d := newDisk(t, 10000)
	twoCommits(t, d)
	d.Room(0)
	expect(t, open(t, d), "r2", "one", "two", "three")
	if errno := open(t, d).Commit("r2"); errno != api.ErrFull {
		t.Errorf("Commit: %d", errno)
	}
	if errno := open(t, d).Collect(nil); errno != api.ErrFull {
		t.Errorf("Collect: %d", errno)
	}
	expect(t, open(t, d), "r2", "one", "two", "three")
}
