package prolly

import (
	"fmt"
	"math/rand/v2"
	"slices"
	"strings"
	"testing"

	"pleach/sums"
)

// wantBuilt is what Build must answer: level by level, each from the left.
func wantBuilt(l []pair) (root string, nodes []string) {
	top := grown(l)
	all := top.all()
	for level := 0; level <= top.level; level++ {
		for _, n := range all {
			if n.level == level {
				nodes = append(nodes, n.text())
			}
		}
	}
	return top.print(), nodes
}

func checkBuilt(t *testing.T, what string, l []pair) {
	t.Helper()
	was := slices.Clone(l)
	root, nodes, ok := Build(l)
	wantRoot, wantNodes := wantBuilt(l)
	if !ok || root != wantRoot || !slices.Equal(nodes, wantNodes) {
		t.Errorf("%s: %t, root %x, %d nodes; want root %x, %d nodes", what, ok, root, len(nodes), wantRoot, len(wantNodes))
	}
	if !slices.Equal(l, was) {
		t.Errorf("%s: the list was changed", what)
	}
}

func checkNotBuilt(t *testing.T, what string, l []pair) {
	t.Helper()
	if root, nodes, ok := Build(l); ok || root != "" || len(nodes) != 0 {
		t.Errorf("%s: %x, %d nodes, %t", what, root, len(nodes), ok)
	}
}

// P8.1: the chapter's example, and the tree of one pair.
func TestBuildExample(t *testing.T) {
	for _, l := range [][]pair{nil, {}} {
		root, nodes, ok := Build(l)
		if !ok || len(nodes) != 1 || nodes[0] != "P\x00\x00" || root != sums.Print("P\x00\x00") {
			t.Errorf("%x %q %t", root, nodes, ok)
		}
	}
	root, nodes, ok := Build([]pair{{Key: "k", Val: "val"}})
	if !ok || len(nodes) != 1 || nodes[0] != "P\x00\x01\x00\x01k\x00\x03val" || root != sums.Print(nodes[0]) {
		t.Errorf("%x %q %t", root, nodes, ok)
	}
	if root, nodes, ok = Build([]pair{{}}); !ok || len(nodes) != 1 || nodes[0] != "P\x00\x01\x00\x00\x00\x00" {
		t.Errorf("%x %q %t", root, nodes, ok)
	}
}

// P8.1: Build of maps of all sizes up to some levels, against the chapter's
// words.
func TestBuildSizes(t *testing.T) {
	levels := map[int]int{}
	for n := range 200 {
		l := mapOf(n)
		checkBuilt(t, fmt.Sprint(n, " pairs"), l)
		levels[grown(l).level]++
	}
	for _, n := range []int{500, 3000} {
		l := mapOf(n)
		checkBuilt(t, fmt.Sprint(n, " pairs"), l)
		levels[grown(l).level]++
	}
	for level := range 4 {
		if levels[level] == 0 {
			t.Error("no tree whose root is of level ", level)
		}
	}
}

// P8.1: Build of keys and values of many forms.
func TestBuildRandom(t *testing.T) {
	random := rand.New(rand.NewPCG(8, 1))
	for i := range 300 {
		checkBuilt(t, fmt.Sprint("map ", i), randomMap(random, random.IntN(120)))
	}
}

// P8.1: a part of 16 items, of which none ends it, in each level where there
// may be one.
func TestBuildFullNodes(t *testing.T) {
	var l []pair
	for i := 0; len(l) < 16*5+3; i++ {
		p := pair{Key: fmt.Sprintf("%06d", i), Val: "x"}
		if sha(wantItem(p.Key, p.Val))[0] >= 64 {
			l = append(l, p)
		}
	}
	checkBuilt(t, "full", l)
	_, nodes, _ := Build(l)
	for i, count := range []byte{16, 16, 16, 16, 16, 3} {
		if nodes[i][1] != 0 || nodes[i][2] != count {
			t.Errorf("node %d: level %d, %d items", i, nodes[i][1], nodes[i][2])
		}
	}
}

// P8.1: keys that don't rise are refused, wherever they stand.
func TestBuildNotRising(t *testing.T) {
	checkNotBuilt(t, "falls", []pair{{Key: "b"}, {Key: "a"}})
	checkNotBuilt(t, "the same", []pair{{Key: "a", Val: "1"}, {Key: "a", Val: "2"}})
	checkNotBuilt(t, "the same pair", []pair{{Key: "a", Val: "1"}, {Key: "a", Val: "1"}})
	checkNotBuilt(t, "the empty key twice", []pair{{}, {}})
	checkNotBuilt(t, "the empty key behind", []pair{{Key: "a"}, {}})
	checkNotBuilt(t, "a key behind one that it begins", []pair{{Key: "ab"}, {Key: "a"}})
	checkNotBuilt(t, "bytes have no sign", []pair{{Key: "\x80"}, {Key: "\x7f"}})
	for i := range 40 {
		l := mapOf(41)
		l[i], l[i+1] = l[i+1], l[i]
		checkNotBuilt(t, fmt.Sprint("turned at ", i), l)
		l = mapOf(41)
		l[i+1].Key = l[i].Key
		checkNotBuilt(t, fmt.Sprint("twice at ", i), l)
	}
	checkBuilt(t, "rising", []pair{{}, {Key: "\x00"}, {Key: "Z"}, {Key: "a"}, {Key: "a\x00"}, {Key: "ab"}, {Key: "\x7f"}, {Key: "\x80"}, {Key: "\xff"}, {Key: "\xff\xff"}})
}

// P8.1: keys of up to 2000 and values of up to 8000 bytes, wherever they
// stand.
func TestBuildLengths(t *testing.T) {
	long := func(n int) string { return strings.Repeat("\xff", n) }
	checkBuilt(t, "a key of 2000", []pair{{Key: long(2000)}})
	checkNotBuilt(t, "a key of 2001", []pair{{Key: long(2001)}})
	checkBuilt(t, "a value of 8000", []pair{{Val: long(8000)}})
	checkNotBuilt(t, "a value of 8001", []pair{{Val: long(8001)}})
	checkBuilt(t, "both", []pair{{Key: long(2000), Val: long(8000)}})
	checkNotBuilt(t, "a key of 65536", []pair{{Key: long(65536)}})
	checkNotBuilt(t, "a value of 65537", []pair{{Val: long(65537)}})
	for i := range 9 {
		l := mapOf(9)
		l[i].Val = long(8000)
		checkBuilt(t, fmt.Sprint("a value of 8000 at ", i), l)
		l[i].Val = long(8001)
		checkNotBuilt(t, fmt.Sprint("a value of 8001 at ", i), l)
		l = mapOf(9)
		l[i].Key += strings.Repeat("k", 2000-len(l[i].Key))
		checkBuilt(t, fmt.Sprint("a key of 2000 at ", i), l)
		l[i].Key += "k"
		checkNotBuilt(t, fmt.Sprint("a key of 2001 at ", i), l)
	}
	var most []pair
	for i := range 60 {
		most = append(most, pair{Key: fmt.Sprintf("%02d", i) + long(1998), Val: long(8000)})
	}
	checkBuilt(t, "the longest pairs", most)
}

// P8.1: Build's list is the caller's own, and R7: it answers the same again.
func TestBuildAgain(t *testing.T) {
	l := mapOf(50)
	root, nodes, _ := Build(l)
	was := slices.Clone(nodes)
	for i := range nodes {
		nodes[i] = "changed"
	}
	if again, others, ok := Build(l); !ok || again != root || !slices.Equal(others, was) {
		t.Error("not the same again")
	}
}

// P0: a long list is built, and all of it is found.
func TestBuildMany(t *testing.T) {
	const many = 49000
	l := mapOf(many)
	root, nodes, ok := Build(l)
	h := NewHeap(nodes...)
	if count, errno := Count(h, root); !ok || count != many || errno != 0 {
		t.Error(ok, count, errno)
	}
	i := 0
	for key, val := range All(h, root) {
		if key != l[i].Key || val != l[i].Val {
			t.Fatal(i, key, val)
		}
		i++
	}
	if i != many {
		t.Error(i)
	}
}

// roots takes the root of each map, and fails if two unlike ones have the
// same.
type roots map[string]string

func (r roots) take(t *testing.T, l []pair) {
	t.Helper()
	root, _, ok := Build(l)
	name := fmt.Sprintf("%q", l)
	if was, there := r[root]; !ok || there && was != name {
		t.Fatalf("%t: one root of %.300s and %.300s", ok, was, name)
	}
	r[root] = name
}

// P8.2: all maps of a few keys and values have roots of their own: also those
// whose keys and values, put behind one another, are the same bytes.
func TestRootsOfShortMaps(t *testing.T) {
	keys := []string{"", "\x00", "\x00\x00", "\x00\x01", "a", "ab"}
	vals := []string{"", "\x00", "\x00\x00", "\x00\x01", "b"}
	r := roots{}
	forms := 1
	for range keys {
		forms *= len(vals) + 1
	}
	for form := range forms {
		var l []pair
		for _, key := range keys {
			if v := form % (len(vals) + 1); v > 0 {
				l = append(l, pair{Key: key, Val: vals[v-1]})
			}
			form /= len(vals) + 1
		}
		r.take(t, l)
	}
	if len(r) != forms {
		t.Error(len(r), forms)
	}
}

// P8.2: a map of some levels and all those that differ from it at one key: by
// its value, by being gone, by another key in its place, by one more.
func TestRootsOfMapsThatDiffer(t *testing.T) {
	l := mapOf(300)
	r := roots{}
	r.take(t, l)
	for i := range l {
		changed := slices.Clone(l)
		changed[i].Val += "x"
		r.take(t, changed)
		changed[i].Val = ""
		r.take(t, changed)
		changed[i] = pair{Key: l[i].Key + "x", Val: l[i].Val}
		r.take(t, changed)
		r.take(t, slices.Delete(slices.Clone(l), i, i+1))
		r.take(t, slices.Insert(slices.Clone(l), i+1, pair{Key: l[i].Key + "y", Val: "new"}))
	}
	if len(r) != 1+5*len(l) {
		t.Error(len(r))
	}
}

// P8.2: a map of one level whose pairs are such items as a tree above it has,
// is another one than the map of that tree.
func TestRootsOfLevels(t *testing.T) {
	top := grown(mapOf(40))
	for top.level > 1 {
		top = top.kids[0]
	}
	var items []pair
	for _, kid := range top.kids {
		items = append(items, pair{Key: kid.last(), Val: toldOf(kid.print(), kid.count())})
	}
	if root, _, ok := Build(items); !ok || root == top.print() || len(items) < 2 {
		t.Error("one root")
	}
	if level, got, ok := Parse(top.text()); level != 1 || !slices.Equal(got, items) || !ok {
		t.Error(level, got, ok)
	}
}

// P8.2: the same map, by texts that stand elsewhere, has the same root.
func TestRootOfTheSameMap(t *testing.T) {
	random := rand.New(rand.NewPCG(8, 2))
	for range 50 {
		l := randomMap(random, 100)
		var same []pair
		for _, p := range l {
			same = append(same, pair{Key: strings.Clone(p.Key), Val: strings.Clone(p.Val)})
		}
		root, _, _ := Build(l)
		if again, _, _ := Build(same); again != root || len(root) != 32 {
			t.Errorf("%x and %x", root, again)
		}
	}
}
