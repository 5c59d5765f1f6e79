package chunks

import (
	"math/rand/v2"
	"slices"
	"strings"
	"testing"

	"pleach/api"
	"pleach/disk"
)

// model is a store in the chapter's words once more: plain lists of chunks.
type model struct {
	root  string
	kept  []string
	fresh []string
	down  bool
}

func (m *model) has(c string) bool {
	return slices.Contains(m.kept, c) || slices.Contains(m.fresh, c)
}

func (m *model) put(c string) (string, api.Errno) {
	if m.down {
		return "", api.ErrDown
	}
	if !m.has(c) {
		m.fresh = append(m.fresh, c)
	}
	return printOf(c), api.OK
}

// stage is a store, its model, and the disk of both; broken is what the call
// that found the disk down would have led to.
type stage struct {
	t      *testing.T
	r      *rand.Rand
	d      *disk.Disk
	s      *Store
	m      model
	broken model
}

func (g *stage) text() string {
	return strings.Repeat(string(rune('a'+g.r.IntN(6))), g.r.IntN(4)*g.r.IntN(60))
}

func (g *stage) put() {
	c := g.text()
	p, errno := g.s.Put(c)
	if q, wanted := g.m.put(c); p != q || errno != wanted {
		g.t.Fatalf("Put(%q): %x, %d, not %d", c, p, errno, wanted)
	}
}

func (g *stage) commit() {
	root := g.text()
	after := model{root: root, kept: slices.Concat(g.m.kept, g.m.fresh)}
	errno := g.s.Commit(root)
	g.m.fresh = nil
	g.answered(errno, after)
}

func (g *stage) collect() {
	var keep []string
	for _, c := range g.m.kept {
		for range g.r.IntN(3) {
			keep = append(keep, c)
		}
	}
	if g.r.IntN(4) == 0 {
		keep = append(keep, g.text())
	}
	g.r.Shuffle(len(keep), func(i, j int) { keep[i], keep[j] = keep[j], keep[i] })
	lost := slices.ContainsFunc(keep, func(c string) bool { return !slices.Contains(g.m.kept, c) })
	errno := g.s.Collect(printsOf(keep...))
	if (errno == api.ErrLost) != lost {
		g.t.Fatalf("Collect: %d, lost: %v", errno, lost)
	}
	if lost {
		g.check()
		return
	}
	slices.Sort(keep)
	g.answered(errno, model{root: g.m.root, kept: slices.Compact(keep), fresh: g.m.fresh})
}

// answered takes a call's answer to the model; behind ErrDown the disk falls,
// sooner or later.
func (g *stage) answered(errno api.Errno, after model) {
	switch {
	case g.m.down && errno != api.ErrDown:
		g.t.Fatalf("%d, of a store that is down", errno)
	case errno == api.OK:
		g.m = after
	case errno == api.ErrDown && !g.m.down:
		g.broken, g.m.down = after, true
	case errno != api.ErrDown && errno != api.ErrFull:
		g.t.Fatalf("%d", errno)
	}
	g.check()
	if g.m.down && g.r.IntN(3) > 0 {
		g.fall()
	}
}

// fall leaves the store as it was ahead of the call that was broken off, or as
// that would have left it.
func (g *stage) fall() {
	g.d.Fall([]int{g.r.IntN(300), g.r.IntN(300)})
	g.s = open(g.t, g.d)
	before, after := told(g.m.root, g.m.kept...), told(g.broken.root, g.broken.kept...)
	switch got := tell(g.t, g.s); got {
	case before:
	case after:
		g.m = g.broken
	default:
		g.t.Fatalf("behind a fall: %s, neither %s nor %s", got, before, after)
	}
	g.m.down, g.m.fresh = false, nil
}

func (g *stage) check() {
	if got, want := tell(g.t, g.s), told(g.m.root, g.m.kept...); got != want {
		g.t.Fatalf("kept: %s, not %s", got, want)
	}
	expectNew(g.t, g.s, g.m.fresh...)
	if g.s.Down() != g.m.down {
		g.t.Fatalf("Down: %v", g.s.Down())
	}
	if !g.m.down {
		g.checkLog()
	}
	for range 3 {
		c := g.text()
		if got, ok := g.s.Get(printOf(c)); ok != g.m.has(c) || ok && got != c || !ok && got != "" {
			g.t.Fatalf("Get of %q: %q, %v", c, got, ok)
		}
	}
}

// checkLog holds the log's own numbers against what stands on the disk: by them
// it is written anew as often as it must be, and no more often.
func (g *stage) checkLog() {
	text, _ := g.d.Read(logName)
	last := framed(rootTag, g.m.root)
	if n := len(framesOf(g.s.kept)); g.s.log.size != len(text) || g.s.log.live != n {
		g.t.Fatalf("the log has %d bytes, %d of them for chunks, not %d and %d", len(text), n, g.s.log.size, g.s.log.live)
	}
	if whole := strings.HasSuffix(text, last) || text == ""; g.s.log.torn == whole {
		g.t.Fatalf("the log ends with a root: %v, and is torn: %v", whole, g.s.log.torn)
	}
}

func (g *stage) step() {
	switch n := g.r.IntN(20); {
	case n < 8:
		g.put()
	case n < 12:
		g.commit()
	case n < 14:
		g.collect()
	case n == 14:
		g.s.Drop()
		g.m.fresh = nil
	case n == 15:
		g.d.Room(g.r.IntN(4000))
	case n == 16:
		g.d.Room(1 << 20)
	case n == 17 && !g.m.down:
		g.d.Fuel(g.r.IntN(12))
	case n == 18:
		g.d.Fuel(-1)
	case n == 19 && !g.m.down:
		g.s = open(g.t, g.d)
		g.m.fresh = nil
	}
}

// P6.1, P6.2: calls in any order, with any room and any falls, held against
// plain lists.
func TestModel(t *testing.T) {
	for seed := range uint64(120) {
		g := &stage{t: t, r: rand.New(rand.NewPCG(seed, 6)), d: newDisk(t, 1<<20)}
		g.s = open(t, g.d)
		for range 150 {
			g.step()
			g.check()
		}
	}
}
