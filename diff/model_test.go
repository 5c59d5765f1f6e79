package diff

import (
	"crypto/sha256"
	"encoding/binary"
	"fmt"
	"maps"
	"slices"
	"strings"
	"testing"

	"pleach/api"
	"pleach/prolly"
	"pleach/seq"
	"pleach/weave"
)

type pair = seq.Pair[string, string]

// table is what a map has, by other means than a tree.
type table map[string]string

// listed answers a table's pairs, rising.
func (t table) listed() []pair {
	var l []pair
	for _, key := range slices.Sorted(maps.Keys(t)) {
		l = append(l, pair{Key: key, Val: t[key]})
	}
	return l
}

// with answers a table that has another value at a key.
func (t table) with(key, val string) table {
	other := maps.Clone(t)
	other[key] = val
	return other
}

// without answers a table that lacks some keys.
func (t table) without(keys ...string) table {
	other := maps.Clone(t)
	for _, key := range keys {
		delete(other, key)
	}
	return other
}

// wantChanges is where two tables differ: a plain walk over the keys of both.
func wantChanges(a, b table) []api.Change {
	keys := slices.Concat(slices.Collect(maps.Keys(a)), slices.Collect(maps.Keys(b)))
	slices.Sort(keys)
	var l []api.Change
	for _, key := range slices.Compact(keys) {
		old, hasOld := a[key]
		val, hasNew := b[key]
		if hasOld != hasNew || old != val {
			l = append(l, api.Change{Key: key, Old: old, New: val, HasOld: hasOld, HasNew: hasNew})
		}
	}
	return l
}

// turned answers each change told the other way round.
func turned(l []api.Change) []api.Change {
	var other []api.Change
	for _, c := range l {
		other = append(other, api.Change{Key: c.Key, Old: c.New, New: c.Old, HasOld: c.HasNew, HasNew: c.HasOld})
	}
	return other
}

func sha(text string) string {
	sum := sha256.Sum256([]byte(text))
	return string(sum[:])
}

// shelf is a source that has been written by other means than Heap.
type shelf map[string]string

func (s shelf) Get(print string) (string, bool) {
	text, ok := s[print]
	return text, ok
}

// with is a shelf that has another text where one stood; without one it lacks
// that.
func (s shelf) with(print string, text ...string) shelf {
	other := maps.Clone(s)
	delete(other, print)
	for _, t := range text {
		other[print] = t
	}
	return other
}

// watch is a source that writes down what it is asked for.
type watch struct {
	prolly.Source
	asked []string
}

func (w *watch) Get(print string) (string, bool) {
	w.asked = append(w.asked, print)
	return w.Source.Get(print)
}

// grown is a tree that Build made: its root, and its nodes by their
// fingerprints.
type grown struct {
	root  string
	nodes []string
	shelf shelf
}

func build(t *testing.T, have table) grown {
	t.Helper()
	root, nodes, ok := prolly.Build(have.listed())
	if !ok {
		t.Fatal("not built")
	}
	g := grown{root: root, nodes: nodes, shelf: shelf{}}
	for _, n := range nodes {
		g.shelf[sha(n)] = n
	}
	return g
}

// level answers a node's level.
func level(n string) int { return int(n[1]) }

func (g grown) level() int { return level(g.nodes[len(g.nodes)-1]) }

func (g grown) has(print string) bool {
	_, there := g.shelf[print]
	return there
}

// both is a source of two trees.
func both(a, b grown) shelf {
	s := maps.Clone(a.shelf)
	maps.Copy(s, b.shelf)
	return s
}

// needed answers, in order, the fingerprints that must be asked for: of both
// roots, of the nodes above level 0, and of those of level 0 that not both
// have; none of two maps that are one.
func needed(a, b grown) []string {
	if a.root == b.root {
		return nil
	}
	l := []string{a.root, b.root}
	for print, n := range both(a, b) {
		if level(n) > 0 || !a.has(print) || !b.has(print) {
			l = append(l, print)
		}
	}
	slices.Sort(l)
	return slices.Compact(l)
}

// checkDiff holds all calls, of two maps both ways round, against a plain walk
// over their keys, and the nodes that are asked for against the chapter.
func checkDiff(t *testing.T, what string, a, b table) {
	t.Helper()
	checkOneWay(t, what, a, b)
	checkOneWay(t, what+", the other way round", b, a)
}

func checkOneWay(t *testing.T, what string, a, b table) {
	t.Helper()
	was, is := build(t, a), build(t, b)
	s := both(was, is)
	want := wantChanges(a, b)
	w := &watch{Source: s}
	got, errno := Diff(w, was.root, is.root)
	if !slices.Equal(got, want) || errno != api.OK {
		t.Errorf("%s: %d changes, %d; want %d: %.300v", what, len(got), errno, len(want), got)
	}
	asked := slices.Compact(slices.Sorted(slices.Values(w.asked)))
	if must := needed(was, is); !slices.Equal(asked, must) {
		t.Errorf("%s: %d nodes were asked for, want %d of %d", what, len(asked), len(must), len(s))
	}
	checkChanges(t, what, s, was.root, is.root, want)
	back, errno := Diff(s, is.root, was.root)
	if !slices.Equal(back, turned(want)) || errno != api.OK {
		t.Errorf("%s, back: %d changes, %d; want %d", what, len(back), errno, len(want))
	}
	if !maps.Equal(s, both(was, is)) {
		t.Errorf("%s: the source was changed", what)
	}
	checkApply(t, what, s, was.root, is.root, want)
}

// checkChanges holds the run of changes against their list: gone through twice,
// left off at some place, and begun again.
func checkChanges(t *testing.T, what string, s prolly.Source, a, b string, want []api.Change) {
	t.Helper()
	run := Changes(s, a, b)
	for range 2 {
		if got := slices.Collect(run); !slices.Equal(got, want) {
			t.Errorf("%s: a run of %d changes, want %d", what, len(got), len(want))
		}
		for _, stop := range []int{1, 2, len(want) - 1, len(want)} {
			if stop < 1 || stop > len(want) {
				continue
			}
			var got []api.Change
			for c := range run {
				got = append(got, c)
				if len(got) == stop {
					break
				}
			}
			if !slices.Equal(got, want[:stop]) {
				t.Errorf("%s: left off behind %d changes: %v", what, stop, got)
			}
		}
	}
}

// checkApply holds the edits of changes: of each its New, or Dead; of the one
// map they lead to the root of the other one.
func checkApply(t *testing.T, what string, s prolly.Source, a, b string, l []api.Change) {
	t.Helper()
	handed := slices.Clone(l)
	edits := Apply(handed)
	if !slices.Equal(handed, l) {
		t.Errorf("%s: the list was changed", what)
	}
	var want []api.Edit
	for _, c := range l {
		e := api.Edit{Key: c.Key, Dead: true}
		if c.HasNew {
			e = api.Edit{Key: c.Key, Val: c.New}
		}
		want = append(want, e)
	}
	if !slices.Equal(edits, want) {
		t.Errorf("%s: %d edits, want %d: %.300v", what, len(edits), len(want), edits)
	}
	if root, _, errno := weave.Edit(s, a, edits); root != b || errno != api.OK {
		t.Errorf("%s: the edits lead to %x, %d; want %x", what, root, errno, b)
	}
}

// checkLost holds that Diff answers ErrLost and nothing, and that a run has
// nothing.
func checkLost(t *testing.T, what string, s prolly.Source, a, b string) {
	t.Helper()
	for _, roots := range [][2]string{{a, b}, {b, a}} {
		if got, errno := Diff(s, roots[0], roots[1]); len(got) != 0 || errno != api.ErrLost {
			t.Errorf("%s: %d changes, %d", what, len(got), errno)
		}
		for c := range Changes(s, roots[0], roots[1]) {
			t.Errorf("%s: a run that has %v", what, c)
			break
		}
	}
}

// tableOf is a table of n keys between which there is room for others.
func tableOf(n int) table {
	t := table{}
	for i := range n {
		t[keyOf(2*i)] = fmt.Sprint("v", i*i)
	}
	return t
}

func keyOf(i int) string { return fmt.Sprintf("k%05d", i) }

// item is the item of a key and a value.
func item(key, val string) string {
	var b []byte
	for _, text := range []string{key, val} {
		b = binary.BigEndian.AppendUint16(b, uint16(len(text)))
		b = append(b, text...)
	}
	return string(b)
}

// nodeText is a node's bytes: of any numbers and items, right or not.
func nodeText(level, count byte, items ...string) string {
	return string([]byte{'P', level, count}) + strings.Join(items, "")
}

// told is the value of an item above level 0.
func told(print string, count uint64) string {
	return print + string(binary.BigEndian.AppendUint64(nil, count))
}

func lastKey(n string) string {
	_, items, _ := prolly.Parse(n)
	if len(items) == 0 {
		return ""
	}
	return items[len(items)-1].Key
}

// The model itself: what it says of maps small enough to be written out.
func TestModel(t *testing.T) {
	a := table{"a": "1", "b": "", "c": "3", "e": ""}
	b := table{"a": "2", "b": "", "d": "", "e": "5"}
	want := []api.Change{
		{Key: "a", Old: "1", New: "2", HasOld: true, HasNew: true},
		{Key: "c", Old: "3", HasOld: true},
		{Key: "d", HasNew: true},
		{Key: "e", New: "5", HasOld: true, HasNew: true},
	}
	if got := wantChanges(a, b); !slices.Equal(got, want) {
		t.Error(got)
	}
	if got := turned(want); !slices.Equal(got, wantChanges(b, a)) {
		t.Error(got)
	}
	was, is := build(t, a), build(t, b)
	if got := needed(was, is); len(got) != 2 || len(needed(was, was)) != 0 {
		t.Error(len(got))
	}
	if text := nodeText(0, 1, item("k", "v")); !build(t, table{"k": "v"}).has(sha(text)) {
		t.Errorf("%q", text)
	}
}
