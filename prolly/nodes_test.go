package prolly

import (
	"fmt"
	"slices"
	"strings"
	"testing"

	"pleach/api"
	"pleach/seq"
)

// P8.1: Nodes of maps of many sizes: the root first, each node ahead of those
// below it, these from the left; just those that Build made.
func TestNodes(t *testing.T) {
	for _, n := range []int{0, 1, 2, 3, 16, 17, 45, 300} {
		top := grown(mapOf(n))
		want := prints(top.all())
		got, errno := Nodes(top.source(), top.print())
		if !slices.Equal(got, want) || errno != api.OK {
			t.Errorf("%d: %d prints, %d", n, len(got), errno)
		}
		_, nodes, _ := Build(mapOf(n))
		var built []string
		for _, text := range nodes {
			built = append(built, sha(text))
		}
		slices.Sort(got)
		slices.Sort(built)
		if !slices.Equal(got, built) {
			t.Errorf("%d: not the nodes that Build made", n)
		}
	}
}

// P8.1: Nodes of a source that lacks each node in turn: ErrLost, and nothing.
func TestNodesLacking(t *testing.T) {
	for _, n := range []int{0, 1, 17, 60} {
		top := grown(mapOf(n))
		for i, gone := range top.all() {
			if got, errno := Nodes(top.source().without(gone.print()), top.print()); len(got) != 0 || errno != api.ErrLost {
				t.Errorf("%d pairs without node %d: %d prints, %d", n, i, len(got), errno)
			}
		}
	}
}

// R4, R7: what Nodes answers is the caller's own, and the same again.
func TestNodesAgain(t *testing.T) {
	top := grown(mapOf(40))
	h := top.source()
	got, _ := Nodes(h, top.print())
	for i := range got {
		got[i] = "changed"
	}
	if again, errno := Nodes(h, top.print()); !slices.Equal(again, prints(top.all())) || errno != api.OK {
		t.Error(again, errno)
	}
}

// standIn is a right node of that level, last key and count, with other things
// in it than the tree has there; of level 0 there are 1 to 16 items.
func standIn(level int, last string, count uint64) string {
	if level > 0 {
		return wantNode(byte(level), 1, wantItem(last, toldOf(sha("x"), count)))
	}
	var items []string
	for i := range count - 1 {
		items = append(items, wantItem(string([]byte{0, byte(i)}), "x"))
	}
	return wantNode(0, byte(count), append(items, wantItem(last, "x"))...)
}

// notRight answers texts that are no right nodes.
func notRight(n *tree) map[string]string {
	return map[string]string{
		"nothing":         "",
		"a piece":         n.text()[:len(n.text())-1],
		"more":            n.text() + "\x00",
		"another sign":    "p" + n.text()[1:],
		"level 33":        standIn(33, n.last(), n.count()),
		"a level of 255":  wantNode(255, 0),
		"no pairs":        wantNode(1, 0),
		"a count of none": wantNode(1, 1, wantItem(n.last(), toldOf(sha("x"), 0))),
	}
}

// notThere answers right nodes that must not stand where this one stands: of
// its level, last key and count they have two, and of the third another one.
func notThere(n *tree) map[string]string {
	level, last, count := n.level, n.last(), n.count()
	texts := map[string]string{
		"the empty map":    "P\x00\x00",
		"a level above":    standIn(level+1, last, count),
		"a last key above": standIn(level, last+"\x00", count),
		"a last key below": standIn(level, last[:len(last)-1]+"!", count),
	}
	if level > 0 || count < 16 {
		texts["one more"] = standIn(level, last, count+1)
	}
	if count > 1 {
		texts["one less"] = standIn(level, last, count-1)
	}
	if level > 0 {
		texts["an empty last key"] = standIn(level, "", count)
		texts["many more"] = standIn(level, last, count+1<<32)
	}
	if level > 1 || level == 1 && count <= 16 {
		texts["a level below"] = standIn(level-1, last, count)
	}
	return texts
}

// P8.1: what stands below an item that it must not stand below is like what
// isn't found, for Find, All, Range and Nodes; Count asks for the root alone.
func TestNotAsItMustStand(t *testing.T) {
	top := grown(mapOf(45))
	levels := map[int]int{}
	for i, bad := range top.all()[1:] {
		for what, text := range notRight(bad) {
			if checkParse(t, what, text) {
				t.Error("right: ", what)
			}
			checkSpoilt(t, fmt.Sprintf("node %d of level %d, %s", i+1, bad.level, what), top, bad, text)
		}
		for what, text := range notThere(bad) {
			if !checkParse(t, what, text) {
				t.Error("not right: ", what)
			}
			checkSpoilt(t, fmt.Sprintf("node %d of level %d, %s", i+1, bad.level, what), top, bad, text)
		}
		levels[bad.level]++
	}
	if levels[0] == 0 || levels[1] == 0 {
		t.Error(levels)
	}
}

// checkSpoilt lays a text in a node's place, and holds what the calls answer
// then against the model.
func checkSpoilt(t *testing.T, what string, top, bad *tree, text string) {
	t.Helper()
	bad.bytes = &text
	defer func() { bad.bytes = nil }()
	s := top.source()
	l := wantRange(top, nil, "", aboveAll)
	if got, errno := Nodes(s, top.print()); len(got) != 0 || errno != api.ErrLost {
		t.Errorf("%s: Nodes %d, %d", what, len(got), errno)
	}
	if got, errno := Count(s, top.print()); got != len(l) || errno != api.OK {
		t.Errorf("%s: Count %d, %d", what, got, errno)
	}
	checkSame(t, what+": All", seq.List(All(s, top.print())), wantRange(top, bad, "", aboveAll))
	for i, p := range l {
		checkFind(t, what, s, top, bad, p.Key)
		checkFind(t, what, s, top, bad, p.Key+"x")
		from, to := p.Key, l[(i*i+5)%len(l)].Key+"x"
		checkSame(t, fmt.Sprintf("%s: Range from %q to %.9q", what, from, to), seq.List(Range(s, top.print(), from, to)), wantRange(top, bad, from, to))
	}
}

// P8.1: above the root there is no item: any right node may be one.
func TestAnyRightNodeIsARoot(t *testing.T) {
	top := grown(mapOf(60))
	s := top.source()
	for i, n := range top.all() {
		what := fmt.Sprint("node ", i)
		got, errno := Nodes(s, n.print())
		if !slices.Equal(got, prints(n.all())) || errno != api.OK {
			t.Error(what, len(got), errno)
		}
		checkSame(t, what, seq.List(All(s, n.print())), wantRange(n, nil, "", aboveAll))
		checkFind(t, what, s, n, nil, n.last())
		if count, errno := Count(s, n.print()); count != int(n.count()) || errno != api.OK {
			t.Error(what, count, errno)
		}
	}
	// One node alone, 32 levels above the pairs.
	leaf := wantNode(0, 1, wantItem("k", "v"))
	h := NewHeap(leaf)
	print := sha(leaf)
	for level := 1; level <= 32; level++ {
		print, _ = h.Put(wantNode(byte(level), 1, wantItem("k", toldOf(print, 1))))
	}
	if val, there, errno := Find(h, print, "k"); val != "v" || !there || errno != api.OK {
		t.Error(val, there, errno)
	}
	if got, errno := Nodes(h, print); len(got) != 33 || got[32] != sha(leaf) || errno != api.OK {
		t.Error(len(got), errno)
	}
	checkSame(t, "33 levels", seq.List(All(h, print)), []pair{{Key: "k", Val: "v"}})
}

// lattice is a source in which each node stands at many places: that of a
// level and a last key is above those of the level below of all keys up to it.
// The root's pairs are some 7 * 10^11.
func lattice() (h *Heap, root string, order []string, count uint64) {
	const keys, levels = 16, 32
	h = NewHeap()
	var made [levels + 1][keys]string
	var counts [levels + 1][keys]uint64
	key := func(i int) string { return fmt.Sprintf("%02d", i) }
	for level := range levels + 1 {
		for last := range keys {
			items := []string{wantItem(key(last), "v")}
			counts[level][last] = 1
			if level > 0 {
				items, counts[level][last] = nil, 0
				for i := range last + 1 {
					items = append(items, wantItem(key(i), toldOf(made[level-1][i], counts[level-1][i])))
					counts[level][last] += counts[level-1][i]
				}
			}
			made[level][last], _ = h.Put(wantNode(byte(level), byte(len(items)), items...))
		}
	}
	known := map[string]bool{}
	var take func(level, last int)
	take = func(level, last int) {
		if print := made[level][last]; !known[print] {
			known[print] = true
			order = append(order, print)
			for i := 0; level > 0 && i <= last; i++ {
				take(level-1, i)
			}
		}
	}
	take(levels, keys-1)
	return h, made[levels][keys-1], order, counts[levels][keys-1]
}

// P0: a tree whose nodes stand at so many places that going through all ways
// would never end: Nodes tells each once, and the others do what they are
// asked for.
func TestNodesAtManyPlaces(t *testing.T) {
	h, root, order, count := lattice()
	if got, errno := Nodes(h, root); !slices.Equal(got, order) || errno != api.OK {
		t.Errorf("%d prints, want %d; %d", len(got), len(order), errno)
	}
	if got, errno := Count(h, root); got != int(count) || count < 1<<39 || errno != api.OK {
		t.Error(got, count, errno)
	}
	if val, there, errno := Find(h, root, "07"); val != "v" || !there || errno != api.OK {
		t.Error(val, there, errno)
	}
	if got := leaveOff(t, All(h, root), 3); len(got) != 3 {
		t.Error(got)
	}
}

// P8.1: a node that stands at two places must be right at both.
func TestNodeAtTwoPlaces(t *testing.T) {
	leaf := func(key string) string { return wantNode(0, 1, wantItem(key, "v")) }
	told := func(text string, count uint64) string { return toldOf(sha(text), count) }
	left := wantNode(1, 2, wantItem("a", told(leaf("a"), 1)), wantItem("b", told(leaf("b"), 1)))
	cases := []struct {
		what, item string
		count      uint64
		right      bool
	}{
		{"as it must", wantItem("a", told(leaf("a"), 1)), 2, true},
		{"another count", wantItem("a", told(leaf("a"), 2)), 3, false},
		{"another key", wantItem("aa", told(leaf("a"), 1)), 2, false},
		{"another level", wantItem("b", told(left, 2)), 3, false},
	}
	for _, c := range cases {
		right := wantNode(1, 2, c.item, wantItem("c", told(leaf("c"), 1)))
		top := wantNode(2, 2, wantItem("b", told(left, 2)), wantItem("c", told(right, c.count)))
		h := NewHeap(leaf("a"), leaf("b"), leaf("c"), left, right, top)
		want := []string{sha(top), sha(left), sha(leaf("a")), sha(leaf("b")), sha(right), sha(leaf("c"))}
		got, errno := Nodes(h, sha(top))
		if c.right && (!slices.Equal(got, want) || errno != api.OK) {
			t.Errorf("%s: %d prints, %d", c.what, len(got), errno)
		}
		if !c.right && (len(got) != 0 || errno != api.ErrLost) {
			t.Errorf("%s: %d prints, %d", c.what, len(got), errno)
		}
	}
}

// P8.1: nodes of the longest keys and values stand as they must.
func TestNodesOfLongKeys(t *testing.T) {
	var l []pair
	for i := range 70 {
		l = append(l, pair{Key: strings.Repeat("k", 1998) + fmt.Sprintf("%02d", i), Val: strings.Repeat("v", 8000)})
	}
	root, nodes, _ := Build(l)
	h := NewHeap(nodes...)
	checkSame(t, "All", seq.List(All(h, root)), l)
	checkSame(t, "Range", seq.List(Range(h, root, l[10].Key, l[20].Key)), l[10:20])
	if got, errno := Nodes(h, root); len(got) != len(nodes) || errno != api.OK {
		t.Error(len(got), errno)
	}
}
