package chunks

import (
	"strconv"
	"testing"

	"pleach/api"
	"pleach/disk"
)

// A scene: a disk is made ready, then one call is done, at any step of which
// the disk may fall. Behind the call with OK it is told after.
type scene struct {
	name  string
	ready func(t *testing.T, d *disk.Disk)
	call  func(s *Store) api.Errno
	steps int // how many the call does at least
	after string
}

func putAndCommit(root string, chunks ...string) func(s *Store) api.Errno {
	return func(s *Store) api.Errno {
		for _, c := range chunks {
			s.Put(c)
		}
		return s.Commit(root)
	}
}

func collect(chunks ...string) func(s *Store) api.Errno {
	return func(s *Store) api.Errno {
		s.Put("only new")
		return s.Collect(printsOf(chunks...))
	}
}

// twoCommits leaves a store with the root r2 and the chunks one, two and three.
func twoCommits(t *testing.T, d *disk.Disk) {
	s := open(t, d)
	commit(t, s, "r1", "one", "two")
	commit(t, s, "r2", "three")
}

// tornLog leaves the same, and behind it a Commit of which n bytes were kept.
func tornLog(n int) func(t *testing.T, d *disk.Disk) {
	return func(t *testing.T, d *disk.Disk) {
		twoCommits(t, d)
		s := open(t, d)
		put(t, s, "torn", "torn too")
		d.Fuel(1)
		if errno := s.Commit("torn root"); errno != api.ErrDown {
			t.Fatalf("Commit: %d", errno)
		}
		d.Fall([]int{n, n})
	}
}

// leftSpare leaves the same, and the spare file of a Collect, n bytes of it.
func leftSpare(n int) func(t *testing.T, d *disk.Disk) {
	return func(t *testing.T, d *disk.Disk) {
		twoCommits(t, d)
		d.Fuel(1)
		if errno := open(t, d).Collect(printsOf("three")); errno != api.ErrDown {
			t.Fatalf("Collect: %d", errno)
		}
		d.Fall([]int{n, n})
	}
}

// longLog leaves the same, but for its root; the next Commit of n bytes of
// frames writes it anew.
func longLog(n int) func(t *testing.T, d *disk.Disk) {
	return func(t *testing.T, d *disk.Disk) {
		twoCommits(t, d)
		s := open(t, d)
		for range 100 {
			if s.log.size+n > 2*(s.log.live+n)+slack {
				return
			}
			commit(t, s, "a root that is as long as some others")
		}
		t.Fatal("the log doesn't get long")
	}
}

func scenes() []scene {
	all := told("r3", "one", "two", "three", "four", "")
	add := putAndCommit("r3", "four", "", "two")
	some := told("r2", "one", "three")
	return []scene{
		{"the first Commit", func(*testing.T, *disk.Disk) {}, putAndCommit("r3", "four", "five"), 2, told("r3", "four", "five")},
		{"the first Commit, of nothing", func(*testing.T, *disk.Disk) {}, putAndCommit(""), 2, told("")},
		{"the first Collect", func(*testing.T, *disk.Disk) {}, collect(), 3, told("")},
		{"a Commit", twoCommits, add, 2, all},
		{"a Commit of a root alone", twoCommits, putAndCommit("r3"), 2, told("r3", "one", "two", "three")},
		{"a Commit of nothing else", twoCommits, putAndCommit("r2"), 2, told("r2", "one", "two", "three")},
		{"a Commit behind a cut off frame", tornLog(5), add, 3, all},
		{"a Commit behind whole chunks without a root", tornLog(40), add, 3, all},
		{"a Commit beside a spare file", leftSpare(7), add, 2, all},
		{"a Commit that writes the log anew", longLog(45), add, 3, all},
		{"a Collect", twoCommits, collect("one", "three"), 3, some},
		{"a Collect of nothing", twoCommits, collect(), 3, told("r2")},
		{"a Collect of all", twoCommits, collect("one", "two", "three", "one"), 3, told("r2", "one", "two", "three")},
		{"a Collect behind a cut off frame", tornLog(30), collect("one", "three"), 3, some},
		{"a Collect beside a spare file", leftSpare(20), collect("one", "three"), 4, some},
		{"a Collect beside a whole spare file", leftSpare(1000), collect("one", "three"), 4, some},
	}
}

// done makes a disk ready and does the call with so much fuel.
func (c scene) done(t *testing.T, fuel int) (d *disk.Disk, before string, errno api.Errno) {
	t.Helper()
	d = newDisk(t, 10000)
	c.ready(t, d)
	s := open(t, d)
	before = tell(t, s)
	d.Fuel(fuel)
	errno = c.call(s)
	if s.Down() != (errno == api.ErrDown) {
		t.Errorf("%s, fuel %d: %d, and Down is %v", c.name, fuel, errno, s.Down())
	}
	want := before
	if errno == api.OK {
		want = c.after
	}
	if got := tell(t, s); got != want {
		t.Errorf("%s, fuel %d: %s behind the call, not %s", c.name, fuel, got, want)
	}
	return d, before, errno
}

// P6.2: the disk falls at every step of a Commit and of a Collect, with every
// number of pending bytes kept.
func TestFallAtEveryStep(t *testing.T) {
	for _, c := range scenes() {
		fuel, befores, afters := 0, 0, 0
		for ; ; fuel++ {
			d, _, errno := c.done(t, fuel)
			// No scene writes as much at once.
			most := min(d.Used(), 200)
			if errno == api.OK {
				d.Fall(nil)
				expectTold(t, d, c.name, c.after, c.after)
				break
			}
			for n := range most + 2 {
				d, before, errno := c.done(t, fuel)
				if errno != api.ErrDown {
					t.Fatalf("%s, fuel %d: %d", c.name, fuel, errno)
				}
				d.Fall([]int{n, n})
				if got := expectTold(t, d, c.name, before, c.after); got == before {
					befores++
				} else {
					afters++
				}
				goOn(t, d)
			}
		}
		if fuel < c.steps || befores == 0 {
			t.Errorf("%s: %d steps, %d times as before, %d times as after", c.name, fuel, befores, afters)
		}
	}
}

// expectTold opens a disk again and again, with falls between: it tells one of
// both each time, and the same.
func expectTold(t *testing.T, d *disk.Disk, name, before, after string) string {
	t.Helper()
	first := tell(t, open(t, d))
	if first != before && first != after {
		t.Fatalf("%s: %s, neither %s nor %s", name, first, before, after)
	}
	for fuel := range 3 {
		d.Fuel(fuel)
		if s, errno := Open(d); errno == api.OK {
			if got := tell(t, s); got != first || s.Down() || len(s.fresh) != 0 {
				t.Fatalf("%s: opened again: %s, not %s", name, got, first)
			}
		} else if errno != api.ErrDown || s != nil {
			t.Fatalf("%s: opened again: %v, %d", name, s, errno)
		}
		d.Fall([]int{fuel, 0})
		if got := tell(t, open(t, d)); got != first {
			t.Fatalf("%s: opened behind a fall: %s, not %s", name, got, first)
		}
	}
	return first
}

// goOn works with a store behind a fall: it takes what is put, and keeps it.
func goOn(t *testing.T, d *disk.Disk) {
	t.Helper()
	s := open(t, d)
	kept := append([]string{"more"}, s.chunks()...)
	commit(t, s, "going on", "more")
	d.Fall(nil)
	expect(t, open(t, d), "going on", kept...)
	if errno := open(t, d).Collect(printsOf("more")); errno != api.OK {
		t.Fatalf("Collect: %d", errno)
	}
	d.Fall(nil)
	expect(t, open(t, d), "going on", "more")
}

// P6.2: falls behind falls: each call is broken off several times on its way.
func TestFallsBehindFalls(t *testing.T) {
	for first := range 5 {
		for second := range 5 {
			for n := range 60 {
				d := newDisk(t, 10000)
				twoCommits(t, d)
				want := told("r2", "one", "two", "three")
				for i, fuel := range []int{first, second, first} {
					s := open(t, d)
					added := "chunk " + strconv.Itoa(i)
					before, after := want, told("r"+added, append(s.chunks(), added)...)
					d.Fuel(fuel)
					put(t, s, added)
					errno := s.Commit("r" + added)
					d.Fall([]int{n, n / 2})
					if errno == api.OK {
						before = after
					}
					want = expectTold(t, d, "a Commit", before, after)

					s = open(t, d)
					before, after = want, told(s.Root(), added)
					if _, there := s.Get(printOf(added)); !there {
						continue
					}
					d.Fuel(second)
					errno = s.Collect(printsOf(added))
					d.Fall([]int{n / 3, n})
					if errno == api.OK {
						before = after
					}
					want = expectTold(t, d, "a Collect", before, after)
				}
			}
		}
	}
}

// P6.2: the disk falls while a chunk and a root of the greatest length are kept.
func TestFallOfLongest(t *testing.T) {
	long := string(make([]byte, api.MaxChunk))
	size := len(framed(chunkTag, long))
	for _, n := range []int{0, 13, size - 1, size, size + 13, 2*size - 1, 2 * size} {
		d := newDisk(t, 1<<23)
		s := open(t, d)
		put(t, s, long)
		d.Fuel(1)
		if errno := s.Commit(long); errno != api.ErrDown {
			t.Fatalf("Commit: %d", errno)
		}
		d.Fall([]int{n})
		u := open(t, d)
		_, there := u.Get(printOf(long))
		if whole := n == 2*size; there != whole || (u.Root() == long) != whole || len(u.Prints()) > 1 {
			t.Errorf("%d bytes kept: %v, a root of %d bytes", n, there, len(u.Root()))
		}
	}
}
