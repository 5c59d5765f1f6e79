package disk

import (
	"math"
	"slices"
	"strings"
	"testing"

	"pleach/api"
)

// P4.1: Room below 0, above 2^30, between, and below what is held.
func TestRoom(t *testing.T) {
	text := zeros()
	for _, c := range []struct{ n, want int }{
		{math.MinInt, 0}, {-1 << 30, 0}, {-1, 0}, {0, 0}, {1, 1}, {7, 7}, {50, 50},
		{1<<30 - 1, 1<<30 - 1}, {1 << 30, 1 << 30}, {1<<30 + 1, 1 << 30}, {1 << 31, 1 << 30}, {1<<32 + 7, 1 << 30},
		{math.MaxInt, 1 << 30},
	} {
		d := fresh(t, 20)
		d.Room(c.n)
		hasRoom(t, d, text, c.want)
	}
	d := with(t)
	for _, n := range []int{-5, 0, 1, 7} {
		d.Room(n)
		holds(t, d, "a", "aa", "b", "bbBBB", "c", "c")
		say(t, d.Append("a", ""), api.ErrFull)
		say(t, d.Append("d", ""), api.ErrFull)
	}
	say(t, d.Sync("a"), api.OK)
	say(t, d.Rename("c", "d"), api.OK)
	d.Room(8)
	say(t, d.Append("a", ""), api.OK)
	say(t, d.Append("a", "x"), api.ErrFull)
	d.Room(9)
	say(t, d.Append("a", "x"), api.OK)
	holds(t, d, "a", "aax", "b", "bbBBB", "d", "c")
}

// P4.1: the room of a disk that is down may be set, and stays behind a fall.
func TestRoomDown(t *testing.T) {
	d := fresh(t, 3)
	d.Fuel(0)
	say(t, d.Append("a", "x"), api.ErrDown)
	d.Room(5)
	if !d.Down() {
		t.Error("up")
	}
	d.Fall(nil)
	hasRoom(t, d, "123456", 5)
}

// doing is a step that is OK on what with answers, and what it leaves.
type doing struct {
	name string
	do   func(d *Disk) api.Errno
	left []string
}

func doings() []doing {
	return []doing{
		{"Append", func(d *Disk) api.Errno { return d.Append("a", "x") }, []string{"a", "aax", "b", "bbBBB", "c", "c"}},
		{"Append nothing", func(d *Disk) api.Errno { return d.Append("a", "") }, []string{"a", "aa", "b", "bbBBB", "c", "c"}},
		{"Append new", func(d *Disk) api.Errno { return d.Append("d", "") }, []string{"a", "aa", "b", "bbBBB", "c", "c", "d", ""}},
		{"Sync", func(d *Disk) api.Errno { return d.Sync("a") }, []string{"a", "aa", "b", "bbBBB", "c", "c"}},
		{"Sync again", func(d *Disk) api.Errno { return d.Sync("c") }, []string{"a", "aa", "b", "bbBBB", "c", "c"}},
		{"Rename", func(d *Disk) api.Errno { return d.Rename("b", "a") }, []string{"a", "bbBBB", "c", "c"}},
		{"Rename to itself", func(d *Disk) api.Errno { return d.Rename("a", "a") }, []string{"a", "aa", "b", "bbBBB", "c", "c"}},
		{"Delete", func(d *Disk) api.Errno { return d.Delete("b") }, []string{"a", "aa", "c", "c"}},
	}
}

// P4.1: each step uses one of the fuel, and that for which none is left puts
// the disk down, with nothing done.
func TestFuelOfEachStep(t *testing.T) {
	for _, c := range doings() {
		d := with(t)
		d.Fuel(1)
		if got := c.do(d); got != api.OK || d.Down() {
			t.Errorf("%s with fuel: %d, %v", c.name, got, d.Down())
		}
		holds(t, d, c.left...)
		if got := d.Sync("c"); got != api.ErrDown || !d.Down() {
			t.Errorf("behind %s: %d, %v", c.name, got, d.Down())
		}

		d = with(t)
		d.Fuel(0)
		if d.Down() {
			t.Errorf("down ahead of %s", c.name)
		}
		if got := c.do(d); got != api.ErrDown || !d.Down() {
			t.Errorf("%s without fuel: %d, %v", c.name, got, d.Down())
		}
		if !slices.Equal(d.Names(), []string{"a", "b", "c"}) || d.Used() != 8 {
			t.Errorf("%s without fuel: %v, %d", c.name, d.Names(), d.Used())
		}
		d.Fall([]int{9, 2})
		holds(t, d, "a", "aa", "b", "bbBB", "c", "c")
	}
}

// P4.1: a Sync without fuel makes nothing sure.
func TestFuelOfSync(t *testing.T) {
	d := with(t)
	d.Fuel(0)
	say(t, d.Sync("b"), api.ErrDown)
	d.Fall(nil)
	holds(t, d, "a", "", "b", "bb", "c", "c")
}

// P4.1: fuel for as many steps as are said, and for all, if below 0.
func TestFuelOfManySteps(t *testing.T) {
	for _, n := range []int{0, 1, 2, 3, 10, 99} {
		d := fresh(t, 1000)
		d.Fuel(n)
		for range n {
			say(t, d.Append("a", "x"), api.OK)
		}
		if d.Down() {
			t.Errorf("down behind %d", n)
		}
		say(t, d.Append("a", "x"), api.ErrDown)
		if d.Used() != n || !d.Down() {
			t.Errorf("%d of %d, %v", d.Used(), n, d.Down())
		}
	}
	for _, n := range []int{math.MinInt, -2, -1, math.MaxInt} {
		d := fresh(t, 1000)
		d.Fuel(0)
		d.Fuel(n)
		for range 500 {
			say(t, d.Append("a", "x"), api.OK)
		}
		if d.Down() || d.Used() != 500 {
			t.Errorf("Fuel(%d): %v, %d", n, d.Down(), d.Used())
		}
	}
}

// P4.1: Fuel doesn't add to what was left.
func TestFuelAnew(t *testing.T) {
	d := fresh(t, 1000)
	d.Fuel(5)
	say(t, d.Append("a", "x"), api.OK)
	d.Fuel(1)
	say(t, d.Append("a", "x"), api.OK)
	say(t, d.Append("a", "x"), api.ErrDown)
	d.Fall(nil)
	d.Fuel(3)
	d.Fuel(0)
	say(t, d.Append("a", "x"), api.ErrDown)
}

// P4.1: what is told ahead of the fuel, and what isn't a step, uses none.
func TestFuelUnused(t *testing.T) {
	d := with(t)
	d.Fuel(1)
	for range 3 {
		say(t, d.Append("A", "x"), api.ErrArg)
		say(t, d.Append("a", strings.Repeat("x", 93)), api.ErrFull)
		say(t, d.Sync(""), api.ErrArg)
		say(t, d.Sync("none"), api.ErrNone)
		say(t, d.Rename("a", "B"), api.ErrArg)
		say(t, d.Rename("none", "a"), api.ErrNone)
		say(t, d.Delete("\x00"), api.ErrArg)
		say(t, d.Delete("none"), api.ErrNone)
		d.Room(100)
		holds(t, d, "a", "aa", "b", "bbBBB", "c", "c")
	}
	say(t, d.Sync("a"), api.OK)
	if _, errno := d.Read("a"); errno != api.OK || d.Down() {
		t.Error(errno, d.Down())
	}
	say(t, d.Append("A", "x"), api.ErrArg)
	say(t, d.Append("a", strings.Repeat("x", 93)), api.ErrFull)
	say(t, d.Delete("none"), api.ErrNone)
	if d.Down() {
		t.Error("down by what is no step")
	}
	say(t, d.Sync("a"), api.ErrDown)
}

// P4.1: of a disk that is down every step and Read answer ErrDown, whatever
// else might be told, also with fuel anew, till it falls; Names and Used tell.
func TestDown(t *testing.T) {
	d := with(t)
	d.Fuel(0)
	say(t, d.Append("a", "x"), api.ErrDown)
	for _, fuel := range []int{0, 0, 5, -1} {
		for _, name := range []string{"a", "none", "", "A"} {
			for call, step := range steps(d, name, "b") {
				if got := step(); got != api.ErrDown {
					t.Errorf("%s of %q: %d", call, name, got)
				}
			}
			if s, errno := d.Read(name); s != "" || errno != api.ErrDown {
				t.Errorf("Read(%q): %q, %d", name, s, errno)
			}
		}
		say(t, d.Append("a", strings.Repeat("x", 101)), api.ErrDown)
		if !slices.Equal(d.Names(), []string{"a", "b", "c"}) || d.Used() != 8 || !d.Down() {
			t.Error(d.Names(), d.Used(), d.Down())
		}
		d.Fuel(fuel)
	}
	d.Fall([]int{1, 1})
	if d.Down() {
		t.Error("down behind a fall")
	}
	holds(t, d, "a", "a", "b", "bbB", "c", "c")
	for range 100 {
		say(t, d.Sync("a"), api.OK)
	}
}

// P4.1: a fall of a disk that is up takes its limit too, and fuel that is said
// while it is down is for nothing.
func TestFallTakesLimit(t *testing.T) {
	d := fresh(t, 1000)
	d.Fuel(1)
	d.Fall(nil)
	for range 10 {
		say(t, d.Append("a", "x"), api.OK)
	}
	d.Fuel(0)
	say(t, d.Sync("a"), api.ErrDown)
	d.Fuel(2)
	d.Fall([]int{4})
	for range 10 {
		say(t, d.Append("a", "y"), api.OK)
	}
	holds(t, d, "a", "xxxxyyyyyyyyyy")
}

// P4.1, P4.2: what a fall keeps: numbers below 0, beyond what is pending, none
// and too many.
func TestFall(t *testing.T) {
	all := []string{"a", "aa", "b", "bbBBB", "c", "c"}
	none := []string{"a", "", "b", "bb", "c", "c"}
	for _, c := range []struct {
		keep []int
		left []string
	}{
		{nil, none},
		{[]int{}, none},
		{[]int{0}, none},
		{[]int{0, 0, 0}, none},
		{[]int{-1, -1, -1}, none},
		{[]int{math.MinInt, math.MinInt, math.MinInt, math.MinInt}, none},
		{[]int{2, 3, 0}, all},
		{[]int{2, 3}, all},
		{[]int{3, 4, 1}, all},
		{[]int{math.MaxInt, math.MaxInt, math.MaxInt, math.MaxInt}, all},
		{[]int{1}, []string{"a", "a", "b", "bb", "c", "c"}},
		{[]int{2}, []string{"a", "aa", "b", "bb", "c", "c"}},
		{[]int{0, 1}, []string{"a", "", "b", "bbB", "c", "c"}},
		{[]int{0, 5}, []string{"a", "", "b", "bbBBB", "c", "c"}},
		{[]int{-7, 2, -7}, []string{"a", "", "b", "bbBB", "c", "c"}},
		{[]int{1, 1, 1, 1, 1, 1}, []string{"a", "a", "b", "bbB", "c", "c"}},
	} {
		for _, down := range []bool{false, true} {
			d := with(t)
			if down {
				d.Fuel(0)
				say(t, d.Delete("a"), api.ErrDown)
			}
			d.Fall(c.keep)
			holds(t, d, c.left...)
			// What was kept is sure from then on.
			d.Fall(nil)
			holds(t, d, c.left...)
		}
	}
}

// P4.1: a fall goes by name, not by when a file came.
func TestFallByName(t *testing.T) {
	d := fresh(t, 100)
	for _, name := range []string{"c", "z", "a.b", "b", "a", "-", "a-", "0", "aa", "."} {
		say(t, d.Append(name, "0123456789"), api.OK)
	}
	d.Fall([]int{0, 1, 2, 3, 4, 5, 6, 7, 8, 9})
	holds(t, d, "-", "", ".", "0", "0", "01", "a", "012", "a-", "0123", "a.b", "01234", "aa", "012345", "b", "0123456", "c", "01234567", "z", "012345678")
}

// P4.1: a fall of a disk without files.
func TestFallOfNothing(t *testing.T) {
	d := fresh(t, 3)
	d.Fall(nil)
	d.Fall([]int{1, -1})
	holds(t, d)
	hasRoom(t, d, "1234", 3)
}

// P4.2: what was synced is there behind fall upon fall, with bytes appended
// between, and what was lost never comes back.
func TestFallsInARow(t *testing.T) {
	d := fresh(t, 100)
	sure := ""
	for n := range 5 {
		say(t, d.Append("a", "abcd"), api.OK)
		d.Fall([]int{n})
		sure += "abcd"[:min(n, 4)]
		holds(t, d, "a", sure)
		say(t, d.Append("a", "XY"), api.OK)
		say(t, d.Sync("a"), api.OK)
		say(t, d.Append("a", "lost"), api.OK)
		sure += "XY"
		holds(t, d, "a", sure+"lost")
		d.Fall(nil)
		holds(t, d, "a", sure)
	}
}
