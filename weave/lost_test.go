package weave

import (
	"fmt"
	"math/rand/v2"
	"slices"
	"testing"

	"pleach/api"
	"pleach/prolly"
)

// checkSpoilt holds Edit of a source in which one node is lacking, or another
// text stands where it stood: ErrLost, if the node must be asked for, else as
// if nothing were wrong.
func checkSpoilt(t *testing.T, what string, have table, edits []api.Edit, print string, text ...string) (lost bool) {
	t.Helper()
	was := build(t, have.listed())
	then := build(t, have.edited(edits).listed())
	s := was.shelf.with(print, text...)
	if slices.Contains(was.asked(edits, then), print) {
		checkRefused(t, what, s, was.root, edits, api.ErrLost)
		return true
	}
	root, fresh, errno := Edit(s, was.root, edits)
	if root != then.root || !slices.Equal(fresh, then.other(was)) || errno != api.OK {
		t.Errorf("%s: %x, %d nodes, %d; want %x", what, root, len(fresh), errno, then.root)
	}
	return false
}

// someEdits are edits of a table of n keys, of many kinds.
func someEdits(n int) map[string][]api.Edit {
	have := tableOf(n)
	middle := keyOf(n / 2 * 2)
	return map[string][]api.Edit{
		"none":                 nil,
		"put ahead":            {put("a", "new")},
		"put between":          {put(middle+"x", "new")},
		"put behind":           {put("z", "new")},
		"another value":        {put(middle, "new")},
		"what is there":        {put(middle, have[middle])},
		"taken away":           {drop(middle)},
		"what isn't there":     {drop(middle + "x")},
		"nothing behind":       {drop("z")},
		"first and last":       {drop(keyOf(0)), put(keyOf(2*n-2), "new")},
		"many put":             {put("a", "1"), put("b", "2"), put("c", "3"), put("d", "4"), put("e", "5"), put("f", "6")},
		"many taken away":      have.drops()[n/3 : n/2],
		"all taken away":       have.drops(),
		"put, and taken away":  {put(middle+"x", "new"), drop(middle + "x")},
		"each second changed":  changes(have, 2),
		"each seventh changed": changes(have, 7),
	}
}

func changes(have table, step int) []api.Edit {
	var edits []api.Edit
	for i, p := range have.listed() {
		if i%step == 0 {
			edits = append(edits, put(p.Key, "new"))
		}
	}
	return edits
}

// P9.1: of a source that lacks each node in turn: ErrLost, and nothing, where
// it must be asked for, the right root and nodes elsewhere.
func TestEditLacking(t *testing.T) {
	for _, n := range []int{1, 2, 17, 40, 120} {
		have := tableOf(n)
		found := 0
		for kind, edits := range someEdits(n) {
			lost := 0
			for i, text := range build(t, have.listed()).nodes {
				if checkSpoilt(t, fmt.Sprintf("%d pairs, %s, without node %d", n, kind, i), have, edits, sha(text)) {
					lost++
				} else {
					found++
				}
			}
			if lost == 0 {
				t.Error(n, kind, "asks for nothing")
			}
		}
		if found == 0 && n > 17 {
			t.Error(n, "asks for all")
		}
	}
	checkRefused(t, "the empty map", shelf{}, sha("P\x00\x00"), nil, api.ErrLost)
	checkRefused(t, "the empty map", shelf{}, sha("P\x00\x00"), []api.Edit{put("a", "b")}, api.ErrLost)
}

// P9.1: a node of level 0 behind those that edits fall into is asked for if it
// is cut anew, and only then.
func TestEditCutsAnew(t *testing.T) {
	have := tableOf(200)
	leaves, lasts := build(t, have.listed()).leaves()
	stay, anew := 0, 0
	for i := range len(leaves) - 1 {
		_, items, _ := prolly.Parse(leaves[i])
		for _, e := range []api.Edit{drop(lasts[i]), put(items[0].Key, "new"), put(items[0].Key+"x", "new"), put(lasts[i], "new")} {
			edits := []api.Edit{e}
			then := build(t, have.edited(edits).listed())
			_, stays := then.shelf[sha(leaves[i+1])]
			if stays {
				stay++
			} else {
				anew++
			}
			if lost := checkSpoilt(t, fmt.Sprint("node ", i, e), have, edits, sha(leaves[i+1])); lost == stays {
				t.Error(i, e, lost, stays)
			}
		}
	}
	if stay < 10 || anew < 10 {
		t.Error(stay, anew)
	}
}

// notRight answers texts that are no right nodes.
func notRight(n string) map[string]string {
	return map[string]string{
		"nothing":         "",
		"a piece":         n[:len(n)-1],
		"more":            n + "\x00",
		"another sign":    "p" + n[1:],
		"level 33":        "P\x21" + n[2:],
		"one item more":   string([]byte{'P', n[1], n[2] + 1}) + n[3:],
		"one item less":   string([]byte{'P', n[1], n[2] - 1}) + n[3:],
		"no pairs":        nodeText(1, 0),
		"a count of none": nodeText(1, 1, item(lastKey(n), told(sha("x"), 0))),
	}
}

// standIn is a right node of that level, last key and count, with other things
// in it than the tree has there; of level 0 there are 1 to 16 items.
func standIn(level int, last string, count uint64) string {
	if level > 0 {
		return nodeText(byte(level), 1, item(last, told(sha("x"), count)))
	}
	var items []string
	for i := range count - 1 {
		items = append(items, item(string([]byte{0, byte(i)}), "x"))
	}
	return nodeText(0, byte(count), append(items, item(last, "x"))...)
}

// countOf answers how many pairs are in and below a node of a tree.
func (g grown) countOf(print string) uint64 {
	n, err := prolly.Count(g.shelf, print)
	if err != api.OK {
		panic("no node of the tree")
	}
	return uint64(n)
}

// notThere answers right nodes that must not stand where one of that level,
// last key and count stands.
func notThere(level int, last string, count uint64) map[string]string {
	texts := map[string]string{
		"the empty map":    "P\x00\x00",
		"a level above":    standIn(level+1, last, count),
		"a last key above": standIn(level, last+"\x00", count),
		"a last key below": standIn(level, last[:len(last)-1], count),
	}
	if level > 0 || count < 16 {
		texts["one more"] = standIn(level, last, count+1)
	}
	if count > 1 {
		texts["one less"] = standIn(level, last, count-1)
	}
	if level > 1 || level == 1 && count <= 16 {
		texts["a level below"] = standIn(level-1, last, count)
	}
	return texts
}

// P9.1: nodes that aren't right, and those that are but don't stand where they
// must: ErrLost where they must be asked for, the right root elsewhere.
func TestEditOfSpoiltNodes(t *testing.T) {
	for _, n := range []int{2, 40, 90} {
		have := tableOf(n)
		g := build(t, have.listed())
		for kind, edits := range someEdits(n) {
			for i, node := range g.nodes {
				what := fmt.Sprintf("%d pairs, %s, node %d of level %d: ", n, kind, i, level(node))
				for how, text := range notRight(node) {
					if _, _, right := prolly.Parse(text); right {
						t.Error(what, "right: ", how)
					}
					checkSpoilt(t, what+how, have, edits, sha(node), text)
				}
				if sha(node) == g.root {
					continue
				}
				for how, text := range notThere(level(node), lastKey(node), g.countOf(sha(node))) {
					if _, _, right := prolly.Parse(text); !right {
						t.Error(what, "not right: ", how)
					}
					checkSpoilt(t, what+how, have, edits, sha(node), text)
				}
			}
		}
	}
}

// P9.1: roots that aren't there, and no source.
func TestEditLost(t *testing.T) {
	g := build(t, tableOf(30).listed())
	for _, root := range []string{"", "x", sha("x"), g.root[:31], g.root + "x"} {
		for _, edits := range [][]api.Edit{nil, {put("a", "b")}, {drop("a")}} {
			checkRefused(t, "another root", g.shelf, root, edits, api.ErrLost)
			checkRefused(t, "an empty heap", prolly.NewHeap(), root, edits, api.ErrLost)
			checkRefused(t, "no heap", (*prolly.Heap)(nil), root, edits, api.ErrLost)
			checkRefused(t, "no source", nil, root, edits, api.ErrLost)
		}
	}
	checkRefused(t, "no source", nil, g.root, nil, api.ErrLost)
}

// P9.1: a node of a tree is the root of a map of its own, if Build makes it one.
func TestEditOfPieces(t *testing.T) {
	g := build(t, tableOf(300).listed())
	pieces := map[int]int{}
	for i, n := range g.nodes {
		have := table{}
		for key, val := range prolly.All(g.shelf, sha(n)) {
			have[key] = val
		}
		was := build(t, have.listed())
		if was.root != sha(n) {
			continue
		}
		pieces[level(n)]++
		for kind, edits := range someEdits(len(have)) {
			then := build(t, have.edited(edits).listed())
			root, fresh, errno := Edit(g.shelf, sha(n), edits)
			if root != then.root || !slices.Equal(fresh, then.other(was)) || errno != api.OK {
				t.Errorf("node %d of level %d, %s: %x, %d nodes, %d", i, level(n), kind, root, len(fresh), errno)
			}
		}
	}
	if pieces[0] == 0 || pieces[1] == 0 || pieces[2] == 0 {
		t.Error(pieces)
	}
}

// P9.1: a source that has another right node where one stood, which stands as it
// must: where edits fall into it, the map is what the source tells.
func TestEditOfWhatTheSourceTells(t *testing.T) {
	have := tableOf(100)
	g := build(t, have.listed())
	leaves, lasts := g.leaves()
	for i, n := range leaves {
		_, items, _ := prolly.Parse(n)
		var texts []string
		told := have.edited(nil)
		for _, p := range items {
			texts = append(texts, item(p.Key, "told"))
			told[p.Key] = "told"
		}
		s := g.shelf.with(sha(n), nodeText(0, byte(len(texts)), texts...))
		for _, edits := range [][]api.Edit{{put(lasts[i], "new")}, {put(items[0].Key, "told")}, {drop(lasts[i])}, {drop(items[0].Key + "x")}} {
			want := build(t, told.edited(edits).listed())
			root, fresh, errno := Edit(s, g.root, edits)
			if root != want.root || !slices.Equal(fresh, want.other(g)) || errno != api.OK {
				t.Errorf("node %d: %x, %d nodes, %d; want %x", i, root, len(fresh), errno, want.root)
			}
		}
	}
}

// lattice is a source in which each node stands at many places: that of a
// level and a last key is above those of the level below of all keys up to it.
func lattice() (h *prolly.Heap, root string) {
	const keys, levels = 16, 32
	h = prolly.NewHeap()
	var made [levels + 1][keys]string
	var counts [levels + 1][keys]uint64
	for level := range levels + 1 {
		for last := range keys {
			items := []string{item(keyOf(last), "v")}
			counts[level][last] = 1
			if level > 0 {
				items, counts[level][last] = nil, 0
				for i := range last + 1 {
					items = append(items, item(keyOf(i), told(made[level-1][i], counts[level-1][i])))
					counts[level][last] += counts[level-1][i]
				}
			}
			made[level][last], _ = h.Put(nodeText(byte(level), byte(len(items)), items...))
		}
	}
	return h, made[levels][keys-1]
}

// P0: a tree whose nodes stand at so many places that going through all ways
// would never end.
func TestEditAtManyPlaces(t *testing.T) {
	h, root := lattice()
	for _, edits := range [][]api.Edit{nil, {put("a", "b")}, {drop("z"), put("z", "y")}} {
		checkRefused(t, "lattice", h, root, edits, api.ErrLost)
	}
}

// P0: nodes whose keys don't rise from one to the next, of which Build makes no
// tree: they are taken for lost where they must be asked for.
func TestEditOfKeysThatFall(t *testing.T) {
	leaf := func(keys ...string) string {
		var items []string
		for _, key := range keys {
			items = append(items, item(key, "v"))
		}
		return nodeText(0, byte(len(items)), items...)
	}
	for _, first := range []string{"a", "b", "", "bb"} {
		left, right := leaf("a", "b"), leaf(first, "c")
		top := nodeText(1, 2, item("b", told(sha(left), 2)), item("c", told(sha(right), 2)))
		h := prolly.NewHeap(left, right, top)
		want := api.ErrLost
		if first > "b" {
			want = api.OK
		}
		if _, _, errno := Edit(h, sha(top), []api.Edit{put("c", "w")}); errno != want {
			t.Error(first, errno)
		}
		if root, fresh, errno := Edit(h, sha(top), nil); root != sha(top) || len(fresh) != 0 || errno != api.OK {
			t.Error(first, root, fresh, errno)
		}
	}
}

// P0: any right nodes, one above the other, whatever they tell: the call ends,
// and what it answers is like all that it answers.
func TestEditOfAnyNodes(t *testing.T) {
	random := rand.New(rand.NewPCG(9, 7))
	h := prolly.NewHeap()
	row := []string{"P\x00\x00"}
	var roots []string
	for level := range 33 {
		var above []string
		for range 6 {
			text := anyNode(random, h, level, row)
			if _, _, right := prolly.Parse(text); !right {
				t.Fatalf("%q", text)
			}
			print, _ := h.Put(text)
			above = append(above, print)
		}
		row = above
		roots = append(roots, row...)
	}
	found := 0
	for _, root := range roots {
		for range 4 {
			edits := randomEdits(random, 12, random.IntN(10))
			got, fresh, errno := Edit(h, root, edits)
			switch errno {
			case api.OK:
				found++
				if len(got) != 32 {
					t.Errorf("%q", got)
				}
			case api.ErrLost:
				if got != "" || len(fresh) != 0 {
					t.Errorf("%q %d", got, len(fresh))
				}
			default:
				t.Error(errno)
			}
		}
	}
	if found < len(roots)/10 {
		t.Error(found, len(roots))
	}
}

// anyNode is a right node of a level, above some of those of the level below,
// as they must stand or nearly so.
func anyNode(random *rand.Rand, h *prolly.Heap, level int, below []string) string {
	items := table{}
	for range 1 + random.IntN(3) {
		if level == 0 {
			items[keyOf(random.IntN(12))] = randomText(random, 3, 256)
			continue
		}
		print := below[random.IntN(len(below))]
		text, _ := h.Get(print)
		count, _ := prolly.Count(h, print)
		if random.IntN(50) == 0 {
			count++
		}
		items[lastKey(text)] = told(print, uint64(max(count, 1)))
	}
	var texts []string
	for _, p := range items.listed() {
		texts = append(texts, item(p.Key, p.Val))
	}
	return nodeText(byte(level), byte(len(texts)), texts...)
}
