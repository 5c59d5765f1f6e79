package diff

import (
	"fmt"
	"math/rand/v2"
	"slices"
	"testing"

	"pleach/api"
	"pleach/prolly"
)

// someMaps are pairs of maps of many kinds.
func someMaps() map[string][2]table {
	have := tableOf(90)
	begin := table{}
	for _, p := range have.listed()[:3] {
		begin[p.Key] = p.Val
	}
	other := table{}
	for i := range 40 {
		other[keyOf(2*i+1)] = "other"
	}
	return map[string][2]table{
		"one pair":              {table{"a": "1"}, table{"a": "2"}},
		"none and one":          {table{}, table{"a": "1"}},
		"none and many":         {table{}, have},
		"few and many":          {begin, have},
		"a key less":            {have, have.without(keyOf(80))},
		"a key more":            {have, have.with(keyOf(81), "new")},
		"another value":         {have, have.with(keyOf(0), "new")},
		"first and last":        {have, have.with("aa", "new").with("zz", "new")},
		"nothing in common":     {have, other},
		"many levels and a few": {tableOf(400), tableOf(17)},
		"both changed":          {have.with("aa", "x").without(keyOf(30)), have.with("bb", "x").without(keyOf(60))},
	}
}

// checkSpoilt holds a source of two trees, in which one node is lacking, or
// another text stands where it stood: ErrLost, if it must be asked for, else as
// if nothing were wrong.
func checkSpoilt(t *testing.T, what string, a, b table, was, is grown, print string, text ...string) (lost bool) {
	t.Helper()
	s := both(was, is).with(print, text...)
	if slices.Contains(needed(was, is), print) {
		checkLost(t, what, s, was.root, is.root)
		return true
	}
	want := wantChanges(a, b)
	got, errno := Diff(s, was.root, is.root)
	back, backErrno := Diff(s, is.root, was.root)
	if !slices.Equal(got, want) || errno != api.OK || !slices.Equal(back, turned(want)) || backErrno != api.OK {
		t.Errorf("%s: %d changes, %d; %d changes, %d; want %d", what, len(got), errno, len(back), backErrno, len(want))
	}
	checkChanges(t, what, s, was.root, is.root, want)
	return false
}

// P10.1: of a source that lacks each node in turn: ErrLost, and nothing, where
// it must be asked for, the right answer elsewhere.
func TestDiffLacking(t *testing.T) {
	found := 0
	for kind, maps := range someMaps() {
		was, is := build(t, maps[0]), build(t, maps[1])
		lost := 0
		for print, n := range both(was, is) {
			if checkSpoilt(t, fmt.Sprint(kind, ": level ", level(n)), maps[0], maps[1], was, is, print) {
				lost++
			} else {
				found++
			}
		}
		if lost < 2 {
			t.Error(kind, lost)
		}
	}
	if found < 50 {
		t.Error(found)
	}
}

// P10.1: a source that lacks all nodes of level 0 that both trees have.
func TestDiffWithoutSharedNodes(t *testing.T) {
	for kind, maps := range someMaps() {
		was, is := build(t, maps[0]), build(t, maps[1])
		s := shelf{}
		for _, print := range needed(was, is) {
			s[print] = both(was, is)[print]
		}
		want := wantChanges(maps[0], maps[1])
		if got, errno := Diff(s, was.root, is.root); !slices.Equal(got, want) || errno != api.OK {
			t.Error(kind, len(got), errno)
		}
		checkChanges(t, kind, s, was.root, is.root, want)
	}
}

// notRight answers texts that are no right nodes.
func notRight(n string) map[string]string {
	return map[string]string{
		"nothing":         "",
		"a piece":         n[:len(n)-1],
		"more":            n + "\x00",
		"another sign":    "p" + n[1:],
		"level 33":        "P\x21" + n[2:],
		"one item more":   string([]byte{'P', n[1], n[2] + 1}) + n[3:],
		"no pairs":        nodeText(1, 0),
		"a count of none": nodeText(1, 1, item(lastKey(n), told(sha("x"), 0))),
	}
}

// standIn is a right node of that level, last key and count, with other things
// in it than the tree has there; of level 0 there are 1 to 16 items.
func standIn(level int, last string, count uint64) string {
	if level > 0 {
		return nodeText(byte(level), 1, item(last, told(sha("x"), count)))
	}
	var items []string
	for i := range count - 1 {
		items = append(items, item(string([]byte{0, byte(i)}), "x"))
	}
	return nodeText(0, byte(count), append(items, item(last, "x"))...)
}

// notThere answers right nodes that must not stand where one of that level,
// last key and count stands.
func notThere(level int, last string, count uint64) map[string]string {
	texts := map[string]string{
		"the empty map":    "P\x00\x00",
		"a level above":    standIn(level+1, last, count),
		"a last key above": standIn(level, last+"\x00", count),
		"a last key below": standIn(level, last[:len(last)-1], count),
	}
	if level > 0 || count < 16 {
		texts["one more"] = standIn(level, last, count+1)
	}
	if count > 1 {
		texts["one less"] = standIn(level, last, count-1)
	}
	if level > 1 || level == 1 && count <= 16 {
		texts["a level below"] = standIn(level-1, last, count)
	}
	return texts
}

// P10.1: nodes that aren't right, and those that are but don't stand where they
// must: ErrLost where they must be asked for, the right answer elsewhere.
func TestDiffOfSpoiltNodes(t *testing.T) {
	for kind, maps := range someMaps() {
		was, is := build(t, maps[0]), build(t, maps[1])
		s := both(was, is)
		for print, n := range s {
			what := fmt.Sprintf("%s, level %d: ", kind, level(n))
			for how, text := range notRight(n) {
				if _, _, right := prolly.Parse(text); right {
					t.Error(what, "right: ", how)
				}
				checkSpoilt(t, what+how, maps[0], maps[1], was, is, print, text)
			}
			if print == was.root || print == is.root {
				continue
			}
			count, _ := prolly.Count(s, print)
			for how, text := range notThere(level(n), lastKey(n), uint64(count)) {
				if _, _, right := prolly.Parse(text); !right {
					t.Error(what, "not right: ", how)
				}
				checkSpoilt(t, what+how, maps[0], maps[1], was, is, print, text)
			}
		}
	}
}

// P10.1: roots that aren't there, and no source.
func TestDiffLost(t *testing.T) {
	g, h := build(t, tableOf(30)), build(t, tableOf(31))
	s := both(g, h)
	for _, root := range []string{"", "x", sha("x"), g.root[:31], g.root + "x"} {
		checkLost(t, "another root", s, g.root, root)
		checkLost(t, "two other roots", s, root, root+"y")
	}
	checkLost(t, "one tree alone", g.shelf, g.root, h.root)
	checkLost(t, "an empty heap", prolly.NewHeap(), g.root, h.root)
	checkLost(t, "no heap", (*prolly.Heap)(nil), g.root, h.root)
	checkLost(t, "no source", nil, g.root, h.root)
}

// P10.1: a run reads when it is gone through, each time.
func TestChangesOfAChangedSource(t *testing.T) {
	a, b := tableOf(50), tableOf(50).with("a", "new")
	was, is := build(t, a), build(t, b)
	h := prolly.NewHeap(was.nodes...)
	run := Changes(h, was.root, is.root)
	for c := range run {
		t.Error(c)
	}
	for _, n := range is.nodes {
		h.Put(n)
	}
	if got := slices.Collect(run); !slices.Equal(got, wantChanges(a, b)) {
		t.Error(got)
	}
}

// P10.1: a node below a root that is another root's node, with another count or
// last key than it has: it isn't one that both have as it must stand.
func TestDiffOfWrongItems(t *testing.T) {
	leaf := nodeText(0, 2, item("a", "1"), item("b", "2"))
	right := nodeText(1, 1, item("b", told(sha(leaf), 2)))
	for _, i := range []string{item("b", told(sha(leaf), 3)), item("c", told(sha(leaf), 2)), item("a", told(sha(leaf), 2))} {
		wrong := nodeText(1, 1, i)
		h := prolly.NewHeap(leaf, right, wrong)
		checkLost(t, "a root of level 0", h, sha(leaf), sha(wrong))
		checkLost(t, "a root of level 1", h, sha(right), sha(wrong))
		if l, errno := Diff(h, sha(leaf), sha(right)); len(l) != 0 || errno != api.OK {
			t.Error(l, errno)
		}
	}
}

// lattice is a source in which each node stands at many places: that of a
// level and a last key is above those of the level below of all keys up to it.
func lattice() (h *prolly.Heap, root string) {
	const keys, levels = 16, 32
	h = prolly.NewHeap()
	var made [levels + 1][keys]string
	var counts [levels + 1][keys]uint64
	for level := range levels + 1 {
		for last := range keys {
			items := []string{item(keyOf(last), "v")}
			counts[level][last] = 1
			if level > 0 {
				items, counts[level][last] = nil, 0
				for i := range last + 1 {
					items = append(items, item(keyOf(i), told(made[level-1][i], counts[level-1][i])))
					counts[level][last] += counts[level-1][i]
				}
			}
			made[level][last], _ = h.Put(nodeText(byte(level), byte(len(items)), items...))
		}
	}
	return h, made[levels][keys-1]
}

// P0: a tree whose nodes stand at so many places that going through all ways
// would never end.
func TestDiffAtManyPlaces(t *testing.T) {
	h, root := lattice()
	empty, _ := h.Put("P\x00\x00")
	checkLost(t, "lattice", h, root, empty)
}

// P0: nodes whose keys don't rise from one to the next, of which Build makes no
// tree: they are taken for lost where they must be asked for.
func TestDiffOfKeysThatFall(t *testing.T) {
	leaf := func(keys ...string) string {
		var items []string
		for _, key := range keys {
			items = append(items, item(key, "v"))
		}
		return nodeText(0, byte(len(items)), items...)
	}
	for _, first := range []string{"a", "b", "", "bb"} {
		left, right := leaf("a", "b"), leaf(first, "c")
		top := nodeText(1, 2, item("b", told(sha(left), 2)), item("c", told(sha(right), 2)))
		h := prolly.NewHeap(left, right, top, "P\x00\x00")
		if first <= "b" {
			checkLost(t, first, h, sha(top), sha("P\x00\x00"))
		} else if l, errno := Diff(h, sha(top), sha("P\x00\x00")); len(l) != 4 || errno != api.OK {
			t.Error(first, l, errno)
		}
		if l, errno := Diff(h, sha(top), sha(left)); len(l) != 2 && first > "b" || first <= "b" && errno != api.ErrLost {
			t.Error(first, l, errno)
		}
	}
}

// P0: any right nodes, one above the other, whatever they tell: each call ends,
// and what is answered is like all that is answered.
func TestDiffOfAnyNodes(t *testing.T) {
	random := rand.New(rand.NewPCG(10, 4))
	h := prolly.NewHeap()
	empty, _ := h.Put("P\x00\x00")
	row, roots := []string{empty}, []string{empty, "x"}
	for level := range 33 {
		var above []string
		for range 6 {
			print, _ := h.Put(anyNode(random, h, level, row))
			above = append(above, print)
		}
		row = above
		roots = append(roots, row...)
	}
	found := 0
	for range 3000 {
		a, b := roots[random.IntN(len(roots))], roots[random.IntN(len(roots))]
		l, errno := Diff(h, a, b)
		if got := slices.Collect(Changes(h, a, b)); !slices.Equal(got, l) {
			t.Error(len(got), len(l))
		}
		switch {
		case errno == api.ErrLost && len(l) == 0:
		case errno == api.OK:
			found++
			if !slices.IsSortedFunc(l, func(x, y api.Change) int { return slices.Compare([]byte(x.Key), []byte(y.Key)) }) {
				t.Error(l)
			}
		default:
			t.Error(errno, len(l))
		}
	}
	if found < 50 {
		t.Error(found)
	}
}

// anyNode is a right node of a level, above some of those of the level below,
// as they must stand or nearly so.
func anyNode(random *rand.Rand, h *prolly.Heap, level int, below []string) string {
	items := table{}
	for range 1 + random.IntN(3) {
		if level == 0 {
			items[keyOf(random.IntN(40))] = randomText(random, 3)
			continue
		}
		print := below[random.IntN(len(below))]
		text, _ := h.Get(print)
		count, _ := prolly.Count(h, print)
		if random.IntN(300) == 0 {
			count++
		}
		items[lastKey(text)] = told(print, uint64(max(count, 1)))
	}
	var texts []string
	for _, p := range items.listed() {
		texts = append(texts, item(p.Key, p.Val))
	}
	return nodeText(byte(level), byte(len(texts)), texts...)
}
