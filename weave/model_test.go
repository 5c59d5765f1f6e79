package weave

import (
	"crypto/sha256"
	"encoding/binary"
	"fmt"
	"maps"
	"slices"
	"strings"
	"testing"

	"pleach/api"
	"pleach/prolly"
	"pleach/seq"
)

type pair = seq.Pair[string, string]

// table is what a map has, by other means than a tree.
type table map[string]string

// listed answers a table's pairs, rising.
func (t table) listed() []pair {
	var l []pair
	for _, key := range slices.Sorted(maps.Keys(t)) {
		l = append(l, pair{Key: key, Val: t[key]})
	}
	return l
}

// edited answers a table with each edit done, one behind the other.
func (t table) edited(edits []api.Edit) table {
	then := maps.Clone(t)
	for _, e := range edits {
		if e.Dead {
			delete(then, e.Key)
		} else {
			then[e.Key] = e.Val
		}
	}
	return then
}

func sha(text string) string {
	sum := sha256.Sum256([]byte(text))
	return string(sum[:])
}

// grown is a tree that Build made: its nodes by their fingerprints, and in
// order.
type grown struct {
	root  string
	nodes []string
	shelf shelf
}

// shelf is a source that has been written by other means than Heap.
type shelf map[string]string

func (s shelf) Get(print string) (string, bool) {
	text, ok := s[print]
	return text, ok
}

// with is a shelf that has another text where one stood; without one it lacks
// that.
func (s shelf) with(print string, text ...string) shelf {
	other := maps.Clone(s)
	delete(other, print)
	for _, t := range text {
		other[print] = t
	}
	return other
}

func build(t *testing.T, l []pair) grown {
	t.Helper()
	root, nodes, ok := prolly.Build(l)
	if !ok {
		t.Fatal("not built")
	}
	g := grown{root: root, nodes: nodes, shelf: shelf{}}
	for _, n := range nodes {
		g.shelf[sha(n)] = n
	}
	return g
}

// level answers a node's level.
func level(n string) int { return int(n[1]) }

func (g grown) level() int { return level(g.nodes[len(g.nodes)-1]) }

// leaves answers the nodes of level 0, and the last key of each.
func (g grown) leaves() (leaves, lasts []string) {
	for _, n := range g.nodes {
		if level(n) == 0 {
			leaves = append(leaves, n)
			lasts = append(lasts, lastKey(n))
		}
	}
	return leaves, lasts
}

func lastKey(n string) string {
	_, items, _ := prolly.Parse(n)
	if len(items) == 0 {
		return ""
	}
	return items[len(items)-1].Key
}

// other answers, in order, the nodes of this tree that aren't of another one.
func (g grown) other(was grown) []string {
	var l []string
	for _, n := range g.nodes {
		if _, there := was.shelf[sha(n)]; !there {
			l = append(l, n)
		}
	}
	return l
}

// asked answers, in order, the fingerprints that must be asked for, where these
// edits make another tree of this one: of the root, of all nodes above level 0,
// of those such as edits fall into, and of those that no longer are there.
func (g grown) asked(edits []api.Edit, then grown) []string {
	var l []string
	for _, n := range g.nodes {
		if _, stays := then.shelf[sha(n)]; level(n) > 0 || !stays {
			l = append(l, sha(n))
		}
	}
	l = append(l, g.root)
	leaves, lasts := g.leaves()
	for _, e := range edits {
		at := slices.IndexFunc(lasts, func(last string) bool { return last >= e.Key })
		if at < 0 {
			at = len(lasts) - 1
		}
		l = append(l, sha(leaves[at]))
	}
	slices.Sort(l)
	return slices.Compact(l)
}

// watch is a source that writes down what it is asked for.
type watch struct {
	prolly.Source
	asked []string
}

func (w *watch) Get(print string) (string, bool) {
	w.asked = append(w.asked, print)
	return w.Source.Get(print)
}

// checkEdit holds Edit of a table's tree against Build of what the table has
// then; and that it asks for the nodes that the chapter names, for no others,
// and leaves the list as it is.
func checkEdit(t *testing.T, what string, have table, edits []api.Edit) table {
	t.Helper()
	was := build(t, have.listed())
	after := have.edited(edits)
	then := build(t, after.listed())
	handed := slices.Clone(edits)
	w := &watch{Source: was.shelf}
	root, fresh, errno := Edit(w, was.root, handed)
	if root != then.root || errno != api.OK {
		t.Errorf("%s: root %x, %d; want %x", what, root, errno, then.root)
	}
	if want := then.other(was); !slices.Equal(fresh, want) {
		t.Errorf("%s: %d new nodes, want %d: %.300q, %.300q", what, len(fresh), len(want), fresh, want)
	}
	if !slices.Equal(handed, edits) {
		t.Errorf("%s: the list was changed", what)
	}
	asked := slices.Compact(slices.Sorted(slices.Values(w.asked)))
	if want := was.asked(edits, then); !slices.Equal(asked, want) {
		t.Errorf("%s: %d nodes were asked for, want %d of %d", what, len(asked), len(want), len(was.nodes))
	}
	return after
}

// checkRefused holds that Edit answers an error, and nothing.
func checkRefused(t *testing.T, what string, s prolly.Source, root string, edits []api.Edit, want api.Errno) {
	t.Helper()
	handed := slices.Clone(edits)
	if got, fresh, errno := Edit(s, root, handed); got != "" || len(fresh) != 0 || errno != want {
		t.Errorf("%s: %x, %d nodes, %d; want %d", what, got, len(fresh), errno, want)
	}
	if !slices.Equal(handed, edits) {
		t.Errorf("%s: the list was changed", what)
	}
}

// tableOf is a table of n keys between which there is room for others.
func tableOf(n int) table {
	t := table{}
	for i := range n {
		t[keyOf(2*i)] = fmt.Sprint("v", i*i)
	}
	return t
}

func keyOf(i int) string { return fmt.Sprintf("k%05d", i) }

func put(key, val string) api.Edit { return api.Edit{Key: key, Val: val} }

func drop(key string) api.Edit { return api.Edit{Key: key, Dead: true} }

// puts are edits that put what a table has.
func (t table) puts() []api.Edit {
	var edits []api.Edit
	for _, p := range t.listed() {
		edits = append(edits, put(p.Key, p.Val))
	}
	return edits
}

// drops are edits that take away all that a table has.
func (t table) drops() []api.Edit {
	var edits []api.Edit
	for _, p := range t.listed() {
		edits = append(edits, drop(p.Key))
	}
	return edits
}

// takesBack answers edits that take back what edits do to a table.
func (t table) takesBack(edits []api.Edit) []api.Edit {
	var back []api.Edit
	for _, e := range edits {
		if val, there := t[e.Key]; there {
			back = append(back, put(e.Key, val))
		} else {
			back = append(back, drop(e.Key))
		}
	}
	return back
}

// item is the item of a key and a value.
func item(key, val string) string {
	var b []byte
	for _, text := range []string{key, val} {
		b = binary.BigEndian.AppendUint16(b, uint16(len(text)))
		b = append(b, text...)
	}
	return string(b)
}

// nodeText is a node's bytes: of any numbers and items, right or not.
func nodeText(level, count byte, items ...string) string {
	return string([]byte{'P', level, count}) + strings.Join(items, "")
}

// told is the value of an item above level 0.
func told(print string, count uint64) string {
	return print + string(binary.BigEndian.AppendUint64(nil, count))
}

// The model itself: what it says of trees small enough to be written out.
func TestModel(t *testing.T) {
	g := build(t, nil)
	if g.level() != 0 || !slices.Equal(g.nodes, []string{"P\x00\x00"}) {
		t.Errorf("%q", g.nodes)
	}
	if n := nodeText(0, 1, item("k", "v")); n != "P\x00\x01\x00\x01k\x00\x01v" || build(t, []pair{{Key: "k", Val: "v"}}).root != sha(n) {
		t.Errorf("%q", n)
	}
	have := table{"a": "1", "b": "2"}
	then := have.edited([]api.Edit{put("c", "3"), drop("a"), put("b", "4"), drop("d"), put("b", "5")})
	if !maps.Equal(then, table{"b": "5", "c": "3"}) || len(have) != 2 {
		t.Error(then, have)
	}
	if back := have.takesBack([]api.Edit{put("c", "3"), drop("a")}); !slices.Equal(back, []api.Edit{drop("c"), put("a", "1")}) {
		t.Error(back)
	}
}
