package disk

import (
	"slices"
	"strconv"
	"strings"
	"testing"

	"pleach/api"
)

// model is a disk in the chapter's words once more, with texts alone; its fuel
// is below 0, if there is no limit.
type model struct {
	room, fuel int
	down       bool
	files      map[string]part
}

type part struct {
	sure, pending string
}

func (m *model) names() []string {
	var l []string
	for name := range m.files {
		l = append(l, name)
	}
	slices.Sort(l)
	return l
}

func (m *model) used() int {
	n := 0
	for _, p := range m.files {
		n += len(p.sure) + len(p.pending)
	}
	return n
}

// step answers what a step answers for which only these errors are told, in
// their order, and whether it is done.
func (m *model) step(errors ...api.Errno) (api.Errno, bool) {
	if m.down {
		return api.ErrDown, false
	}
	for _, errno := range errors {
		if errno != api.OK {
			return errno, false
		}
	}
	if m.fuel == 0 {
		m.down = true
		return api.ErrDown, false
	}
	if m.fuel > 0 {
		m.fuel--
	}
	return api.OK, true
}

func (m *model) arg(name string) api.Errno {
	if len(name) == 0 || len(name) > 40 || strings.Trim(name, "abcdefghijklmnopqrstuvwxyz0123456789-.") != "" {
		return api.ErrArg
	}
	return api.OK
}

func (m *model) none(name string) api.Errno {
	if _, there := m.files[name]; !there {
		return api.ErrNone
	}
	return api.OK
}

func (m *model) append(name, s string) api.Errno {
	full := api.OK
	if m.used()+len(s) > m.room {
		full = api.ErrFull
	}
	errno, done := m.step(m.arg(name), full)
	if done {
		p := m.files[name]
		p.pending += s
		m.files[name] = p
	}
	return errno
}

func (m *model) sync(name string) api.Errno {
	errno, done := m.step(m.arg(name), m.none(name))
	if done {
		p := m.files[name]
		m.files[name] = part{sure: p.sure + p.pending}
	}
	return errno
}

func (m *model) rename(from, to string) api.Errno {
	errno, done := m.step(m.arg(from), m.arg(to), m.none(from))
	if done {
		p := m.files[from]
		delete(m.files, from)
		m.files[to] = p
	}
	return errno
}

func (m *model) delete(name string) api.Errno {
	errno, done := m.step(m.arg(name), m.none(name))
	if done {
		delete(m.files, name)
	}
	return errno
}

func (m *model) read(name string) (string, api.Errno) {
	for _, errno := range []api.Errno{m.arg(name), m.none(name)} {
		if m.down {
			return "", api.ErrDown
		}
		if errno != api.OK {
			return "", errno
		}
	}
	return m.files[name].sure + m.files[name].pending, api.OK
}

func (m *model) fall(keep []int) {
	for k, name := range m.names() {
		p := m.files[name]
		n := 0
		if k < len(keep) && keep[k] > 0 {
			n = min(keep[k], len(p.pending))
		}
		m.files[name] = part{sure: p.sure + p.pending[:n]}
	}
	m.down, m.fuel = false, -1
}

// numbers answers a source of numbers from 0 to below what it is asked for,
// the same ones each time.
func numbers(seed uint64) func(int) int {
	return func(below int) int {
		seed = seed*6364136223846793005 + 1442695040888963407
		return int(seed>>33) % below
	}
}

func someNames() []string {
	return []string{"a", "b", "c", "a.b", "-", "0", strings.Repeat("z", 40), strings.Repeat("z", 41), "", "B", "a/b"}
}

// P4.1: calls in any order answer as the model does, and leave the same.
func TestAnyOrder(t *testing.T) {
	for seed := range 60 {
		next := numbers(uint64(seed))
		room := next(60)
		d, m := fresh(t, room), &model{room: room, fuel: -1, files: make(map[string]part)}
		for i := range 400 {
			got, want := oneCall(next, d, m)
			if got != want {
				t.Fatalf("seed %d, call %d: %d, want %d", seed, i, got, want)
			}
			if !alike(d, m) {
				t.Fatalf("seed %d, call %d: %q, %d used, down %v; want %+v", seed, i, d.Names(), d.Used(), d.Down(), m)
			}
		}
	}
}

// oneCall does one call on both.
func oneCall(next func(int) int, d *Disk, m *model) (got, want api.Errno) {
	name, other := someNames()[next(11)], someNames()[next(11)]
	switch next(20) {
	case 0, 1, 2, 3, 4, 5:
		s := "abcdefghijklmnopqrst"[next(10):][:next(11)]
		return d.Append(name, s), m.append(name, s)
	case 6, 7, 8:
		return d.Sync(name), m.sync(name)
	case 9, 10, 11:
		return d.Rename(name, other), m.rename(name, other)
	case 12, 13:
		return d.Delete(name), m.delete(name)
	case 14:
		n := next(80) - 10
		d.Room(n)
		m.room = max(n, 0)
	case 15:
		n := next(20) - 3
		d.Fuel(n)
		m.fuel = max(n, -1)
	default:
		if !m.down && next(3) > 0 {
			return
		}
		var keep []int
		for range next(10) {
			keep = append(keep, next(14)-3)
		}
		d.Fall(keep)
		m.fall(keep)
	}
	return
}

// alike tells whether a disk tells just what the model does.
func alike(d *Disk, m *model) bool {
	if d.Down() != m.down || d.Used() != m.used() || !slices.Equal(d.Names(), m.names()) {
		return false
	}
	for _, name := range someNames() {
		s, errno := d.Read(name)
		if want, wantErrno := m.read(name); s != want || errno != wantErrno {
			return false
		}
	}
	return true
}

// track is what is known of a file without knowing what falls keep: what was
// there when it was last synced or fell, and that with all appended since.
type track struct {
	sure, all string
}

// P4.2: behind any fall each file begins with what was sure, and is a
// beginning of what was appended; a step that the fall broke off left nothing.
func TestSureBehindFalls(t *testing.T) {
	for seed := range 40 {
		next := numbers(uint64(1000 + seed))
		d, known := fresh(t, 1<<20), make(map[string]track)
		for range 30 {
			d.Fuel(next(25))
			for range 200 {
				if trackedStep(next, d, known) == api.ErrDown {
					break
				}
			}
			keep := []int{next(60) - 9, next(60) - 9, next(60) - 9, next(60) - 9}
			d.Fall(keep[:next(5)])
			if len(d.Names()) != len(known) {
				t.Fatalf("seed %d: %q, %d known", seed, d.Names(), len(known))
			}
			for _, name := range d.Names() {
				s, errno := d.Read(name)
				if k := known[name]; errno != api.OK || !strings.HasPrefix(s, k.sure) || !strings.HasPrefix(k.all, s) {
					t.Fatalf("seed %d: %q has %q, known %+v", seed, name, s, k)
				}
				known[name] = track{s, s}
			}
		}
	}
}

// trackedStep does a step, and notes what is known behind it.
func trackedStep(next func(int) int, d *Disk, known map[string]track) api.Errno {
	name, other := someNames()[next(4)], someNames()[next(4)]
	k, there := known[name]
	switch next(8) {
	case 0, 1, 2, 3:
		s := strings.Repeat(string(rune('a'+next(26))), next(9))
		errno := d.Append(name, s)
		if errno == api.OK {
			known[name] = track{k.sure, k.all + s}
		}
		return errno
	case 4, 5:
		errno := d.Sync(name)
		if errno == api.OK {
			known[name] = track{k.all, k.all}
		}
		return errno
	case 6:
		errno := d.Rename(name, other)
		if errno == api.OK && there {
			delete(known, name)
			known[other] = k
		}
		return errno
	default:
		errno := d.Delete(name)
		if errno == api.OK {
			delete(known, name)
		}
		return errno
	}
}

// P0: many files, and many pieces of one, are no trouble.
func TestMany(t *testing.T) {
	const files, pieces = 20000, 100000
	d := fresh(t, 1<<20)
	for i := range files {
		say(t, d.Append("f"+strconv.Itoa(i), ""), api.OK)
	}
	for range pieces {
		say(t, d.Append("a", "0123456789"), api.OK)
	}
	names := d.Names()
	if len(names) != files+1 || !slices.IsSorted(names) || d.Used() != 10*pieces {
		t.Error(len(names), d.Used())
	}
	d.Fall([]int{10*pieces - 5})
	if s, errno := d.Read("a"); s != strings.Repeat("0123456789", pieces)[:10*pieces-5] || errno != api.OK {
		t.Error(len(s), errno)
	}
}
