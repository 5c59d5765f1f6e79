package prolly

import (
	"fmt"
	"slices"
	"strings"
	"testing"

	"pleach/api"
)

// checkFind holds Find against the model, in which one node at most doesn't
// stand as it must, and holds it to ask for the nodes on the way alone.
func checkFind(t *testing.T, what string, s Source, top, bad *tree, key string) {
	t.Helper()
	way := top.way(key)
	var want string
	var there bool
	for _, p := range way[len(way)-1].pairs {
		if p.Key == key {
			want, there = p.Val, true
		}
	}
	asked := len(way)
	errno := api.OK
	if at := slices.Index(way, bad); at >= 0 {
		want, there, asked, errno = "", false, at+1, api.ErrLost
	}
	w := &watch{Source: s}
	got, found, gotErrno := Find(w, top.print(), key)
	if got != want || found != there || gotErrno != errno {
		t.Errorf("%s: Find %q: %q, %t, %d; want %q, %t, %d", what, key, got, found, gotErrno, want, there, errno)
	}
	if !slices.Equal(w.asked, prints(way[:asked])) {
		t.Errorf("%s: Find %q asked for %d nodes, not for the %d on the way", what, key, len(w.asked), asked)
	}
}

// P8.1: Find of each key, of keys between them, below the first and above the
// last one, in maps of many sizes.
func TestFind(t *testing.T) {
	for _, n := range []int{0, 1, 2, 5, 16, 17, 45, 300} {
		l := mapOf(n)
		top := grown(l)
		s := top.source()
		for _, key := range bounds(l) {
			checkFind(t, fmt.Sprint(n, " pairs"), s, top, nil, key)
		}
		if errno := api.OK; n > 0 {
			if val, there, got := Find(s, top.print(), l[n-1].Key); val != l[n-1].Val || !there || got != errno {
				t.Error(n, val, there, got)
			}
		}
	}
}

// P8.1: keys that begin one another, the empty one, and values that are empty
// are there.
func TestFindEdges(t *testing.T) {
	l := []pair{{}, {Key: "\x00", Val: "zero"}, {Key: "a"}, {Key: "a\x00", Val: "b"}, {Key: "aa", Val: ""}, {Key: "\xff", Val: "last"}}
	root, nodes, _ := Build(l)
	h := NewHeap(nodes...)
	for _, p := range l {
		if val, there, errno := Find(h, root, p.Key); val != p.Val || !there || errno != api.OK {
			t.Errorf("%q: %q, %t, %d", p.Key, val, there, errno)
		}
	}
	for _, key := range []string{"\x00\x00", "A", "a\x00\x00", "ab", "\xfe", "\xff\x00", strings.Repeat("a", 2001), strings.Repeat("\xff", 100000)} {
		if val, there, errno := Find(h, root, key); val != "" || there || errno != api.OK {
			t.Errorf("%.20q: %q, %t, %d", key, val, there, errno)
		}
	}
}

// P8.1: of a source that lacks each node in turn: ErrLost where the node is on
// the way, right answers elsewhere.
func TestFindLacking(t *testing.T) {
	l := mapOf(60)
	top := grown(l)
	s := top.source()
	keys := bounds(l)
	for i, gone := range top.all() {
		for _, key := range keys {
			checkFind(t, fmt.Sprint("without node ", i), s.without(gone.print()), top, gone, key)
		}
	}
}

// P8.1: Count of the empty map and of others asks for the root's node alone.
func TestCount(t *testing.T) {
	for _, n := range []int{0, 1, 2, 3, 16, 17, 60, 1000} {
		top := grown(mapOf(n))
		w := &watch{Source: shelf{top.print(): top.text()}}
		if count, errno := Count(w, top.print()); count != n || errno != api.OK {
			t.Errorf("%d: %d, %d", n, count, errno)
		}
		if !slices.Equal(w.asked, []string{top.print()}) {
			t.Errorf("%d: %d asked for", n, len(w.asked))
		}
	}
}

// P8.1: what Count answers is the sum of what the root's items tell, whatever
// is below them, up to all that there may be.
func TestCountOfWhatIsTold(t *testing.T) {
	var items []string
	for i := range 16 {
		items = append(items, wantItem(string(rune('a'+i)), toldOf(sha("x"), 1<<40)))
	}
	h := NewHeap()
	for n := 1; n <= 16; n++ {
		root, _ := h.Put(wantNode(32, byte(n), items[:n]...))
		if count, errno := Count(h, root); count != n<<40 || errno != api.OK {
			t.Error(n, count, errno)
		}
	}
}

// P8.1: Count of a root whose node isn't there, or isn't right.
func TestCountLost(t *testing.T) {
	h := NewHeap("P\x00\x00")
	roots := []string{"", "x", sha("P\x00\x01")}
	for _, text := range []string{"", "P\x00\x00x", "P\x01\x00", wantNode(1, 1, wantItem("a", toldOf(sha("x"), 0)))} {
		root, _ := h.Put(text)
		roots = append(roots, root)
	}
	for _, root := range roots {
		if count, errno := Count(h, root); count != 0 || errno != api.ErrLost {
			t.Errorf("%q: %d, %d", root, count, errno)
		}
		if val, there, errno := Find(h, root, "a"); val != "" || there || errno != api.ErrLost {
			t.Errorf("%q: %q, %t, %d", root, val, there, errno)
		}
		if l, errno := Nodes(h, root); len(l) != 0 || errno != api.ErrLost {
			t.Errorf("%q: %q, %d", root, l, errno)
		}
		for key := range All(h, root) {
			t.Errorf("%q: %q", root, key)
		}
		for key := range Range(h, root, "", "z") {
			t.Errorf("%q: %q", root, key)
		}
	}
}
