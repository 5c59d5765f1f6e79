package weave

import (
	"fmt"
	"math/rand/v2"
	"slices"
	"strings"
	"testing"

	"pleach/api"
	"pleach/prolly"
	"pleach/sums"
)

// P9.1: the chapter's example: an edit of the empty map leads to the tree of
// one pair.
func TestEditOfTheEmptyMap(t *testing.T) {
	s := prolly.NewHeap("P\x00\x00")
	root, fresh, errno := Edit(s, sums.Print("P\x00\x00"), []api.Edit{{Key: "k", Val: "val"}})
	if errno != api.OK || len(fresh) != 1 || fresh[0] != "P\x00\x01\x00\x01k\x00\x03val" || root != sums.Print(fresh[0]) {
		t.Errorf("%x %q %d", root, fresh, errno)
	}
	checkEdit(t, "one pair", table{}, []api.Edit{put("k", "val")})
	checkEdit(t, "an empty key", table{}, []api.Edit{put("", "")})
	checkEdit(t, "nothing", table{}, nil)
	checkEdit(t, "what isn't there", table{}, []api.Edit{drop("k"), drop("")})
	checkEdit(t, "put, and taken away", table{}, []api.Edit{put("k", "v"), drop("k")})
	checkEdit(t, "taken away, and put", table{}, []api.Edit{drop("k"), put("k", "v")})
	for _, n := range []int{2, 3, 16, 17, 60, 400, 3000} {
		checkEdit(t, fmt.Sprint(n, " pairs"), table{}, tableOf(n).puts())
	}
}

// P9.1, P9.2: without edits there are the root that was there, and no new
// nodes.
func TestEditOfNothing(t *testing.T) {
	for _, n := range []int{0, 1, 2, 5, 16, 17, 60, 400} {
		have := tableOf(n)
		for what, edits := range map[string][]api.Edit{"none": nil, "an empty list": {}} {
			g := build(t, have.listed())
			root, fresh, errno := Edit(g.shelf, g.root, edits)
			if root != g.root || len(fresh) != 0 || errno != api.OK {
				t.Errorf("%d pairs, %s: %x, %d nodes, %d", n, what, root, len(fresh), errno)
			}
			checkEdit(t, fmt.Sprint(n, " pairs, ", what), have, edits)
		}
	}
}

// P9.1: one edit at each key, and at each place ahead of, between and behind
// them: of trees whose roots are of each level from 0 to 3.
func TestEditOfOneKey(t *testing.T) {
	levels := map[int]int{}
	for _, n := range []int{1, 2, 3, 7, 16, 17, 30, 90, 130} {
		have := tableOf(n)
		what := fmt.Sprint(n, " pairs, ")
		for i := range n {
			key := keyOf(2 * i)
			checkEdit(t, what+"put between at "+key, have, []api.Edit{put(keyOf(2*i+1), "new")})
			checkEdit(t, what+"another value at "+key, have, []api.Edit{put(key, "new")})
			checkEdit(t, what+"an empty value at "+key, have, []api.Edit{put(key, "")})
			checkEdit(t, what+"what is there at "+key, have, []api.Edit{put(key, have[key])})
			checkEdit(t, what+"taken away at "+key, have, []api.Edit{drop(key)})
			checkEdit(t, what+"taken away behind "+key, have, []api.Edit{drop(keyOf(2*i + 1))})
		}
		for _, key := range []string{"", "a", "k", "z", "\xff"} {
			checkEdit(t, what+"put at "+key, have, []api.Edit{put(key, "new")})
			checkEdit(t, what+"taken away at "+key, have, []api.Edit{drop(key)})
		}
		levels[build(t, have.listed()).level()]++
	}
	for level := range 4 {
		if levels[level] == 0 {
			t.Error("no root of level ", level)
		}
	}
}

// P9.1: edits of many keys: ahead of all, between, behind all; all values; keys
// in a row, each second one, and all taken away.
func TestEditOfManyKeys(t *testing.T) {
	for _, n := range []int{0, 1, 5, 17, 60, 400} {
		have := tableOf(n)
		for _, m := range []int{1, 2, 15, 16, 17, 100} {
			var ahead, between, behind []api.Edit
			for i := range m {
				ahead = append(ahead, put(fmt.Sprintf("a%04d", i), "new"))
				between = append(between, put(fmt.Sprintf("%sx%04d", keyOf(n), i), "new"))
				behind = append(behind, put(fmt.Sprintf("z%04d", i), "new"))
			}
			what := fmt.Sprint(n, " pairs, ", m, " ")
			checkEdit(t, what+"ahead", have, ahead)
			checkEdit(t, what+"between", have, between)
			checkEdit(t, what+"behind", have, behind)
			checkEdit(t, what+"everywhere", have, slices.Concat(behind, ahead, between))
			checkEdit(t, what+"put ahead, all else taken away", have, slices.Concat(ahead, have.drops()))
			checkEdit(t, what+"put behind, all else taken away", have, slices.Concat(have.drops(), behind))
		}
		what := fmt.Sprint(n, " pairs, ")
		if then := checkEdit(t, what+"all taken away", have, have.drops()); len(then) != 0 {
			t.Error(what, len(then))
		}
		for first := range n {
			for _, m := range []int{2, 7, 20} {
				last := min(first+m, n)
				checkEdit(t, fmt.Sprint(what, first, " to ", last, " taken away"), have, have.drops()[first:last])
			}
			if n > 100 && first > 60 {
				break
			}
		}
		for _, step := range []int{2, 3, 5, 17} {
			var values, gone []api.Edit
			for i := 0; i < n; i += step {
				values = append(values, put(keyOf(2*i), "new"))
				gone = append(gone, drop(keyOf(2*i)))
			}
			checkEdit(t, fmt.Sprint(what, "new values by ", step), have, values)
			checkEdit(t, fmt.Sprint(what, "taken away by ", step), have, gone)
		}
	}
}

// P9.1: whole nodes of level 0 taken away, alone and with those beside them;
// and all but one of them.
func TestEditOfWholeNodes(t *testing.T) {
	have := tableOf(120)
	leaves, _ := build(t, have.listed()).leaves()
	pairs := func(leaves []string) []api.Edit {
		var edits []api.Edit
		for _, n := range leaves {
			_, items, _ := prolly.Parse(n)
			for _, p := range items {
				edits = append(edits, drop(p.Key))
			}
		}
		return edits
	}
	for i := range leaves {
		checkEdit(t, fmt.Sprint("node ", i), have, pairs(leaves[i:i+1]))
		checkEdit(t, fmt.Sprint("up to node ", i), have, pairs(leaves[:i]))
		checkEdit(t, fmt.Sprint("from node on ", i), have, pairs(leaves[i:]))
		checkEdit(t, fmt.Sprint("all but node ", i), have, pairs(slices.Concat(leaves[:i], leaves[i+1:])))
		_, items, _ := prolly.Parse(leaves[i])
		checkEdit(t, fmt.Sprint("the last key of node ", i), have, []api.Edit{drop(items[len(items)-1].Key)})
		checkEdit(t, fmt.Sprint("all but the last key of node ", i), have, pairs(leaves[i : i+1])[:len(items)-1])
	}
}

// P9.1: of several edits of one key the last one tells.
func TestEditOfOneKeyOften(t *testing.T) {
	for _, n := range []int{0, 3, 40} {
		have := tableOf(n)
		for _, key := range []string{keyOf(0), keyOf(20), keyOf(21), "z"} {
			checkEdit(t, "two values", have, []api.Edit{put(key, "one"), put(key, "two")})
			checkEdit(t, "put, and taken away", have, []api.Edit{put(key, "one"), drop(key)})
			checkEdit(t, "taken away, and put", have, []api.Edit{drop(key), put(key, "one")})
			checkEdit(t, "put, taken away, and put", have, []api.Edit{put(key, "one"), drop(key), put(key, "two")})
			checkEdit(t, "often", have, []api.Edit{
				drop(key), put("b", "1"), put(key, "two"), drop("c"), put("b", "2"), drop(key), put("d", "3"), drop(key), drop("b"),
			})
			if val, there := have[key]; there {
				checkEdit(t, "changed, and back", have, []api.Edit{put(key, "one"), put(key, val)})
			}
		}
	}
}

// P9.1: edits of unlike keys lead to the same in any order.
func TestEditInAnyOrder(t *testing.T) {
	random := rand.New(rand.NewPCG(9, 1))
	have := tableOf(100)
	var edits []api.Edit
	for i := 0; i < 200; i += 7 {
		edits = append(edits, put(keyOf(i), "new"), drop(keyOf(i+2)))
	}
	g := build(t, have.listed())
	wantRoot, wantFresh, _ := Edit(g.shelf, g.root, edits)
	for range 50 {
		random.Shuffle(len(edits), func(i, j int) { edits[i], edits[j] = edits[j], edits[i] })
		checkEdit(t, "shuffled", have, edits)
		if root, fresh, errno := Edit(g.shelf, g.root, edits); root != wantRoot || !slices.Equal(fresh, wantFresh) || errno != api.OK {
			t.Errorf("%x, %d nodes, %d", root, len(fresh), errno)
		}
	}
	slices.Reverse(edits)
	checkEdit(t, "backwards", have, edits)
}

// P9.1: what the same key is put to in one list, and where, doesn't hang on the
// lists that the edits come in: one by one, they lead to the same.
func TestEditOneByOne(t *testing.T) {
	random := rand.New(rand.NewPCG(9, 2))
	for range 20 {
		have := tableOf(random.IntN(80))
		edits := randomEdits(random, 200, random.IntN(60))
		g := build(t, have.listed())
		root := g.root
		heap := prolly.NewHeap(g.nodes...)
		for _, e := range edits {
			var fresh []string
			var errno api.Errno
			if root, fresh, errno = Edit(heap, root, []api.Edit{e}); errno != api.OK {
				t.Fatal(errno)
			}
			for _, n := range fresh {
				heap.Put(n)
			}
		}
		if want := build(t, have.edited(edits).listed()).root; root != want {
			t.Errorf("%d edits: %x, want %x", len(edits), root, want)
		}
	}
}

// randomEdits are edits of keys of the tables that tableOf makes, and of those
// between them, up to a number.
func randomEdits(random *rand.Rand, most, count int) []api.Edit {
	edits := make([]api.Edit, 0, count)
	for range count {
		e := api.Edit{Key: keyOf(random.IntN(most)), Dead: random.IntN(3) == 0}
		if !e.Dead || random.IntN(2) == 0 {
			e.Val = strings.Repeat("v", random.IntN(4))
		}
		edits = append(edits, e)
	}
	return edits
}

// P9.1: trees that grow, pair by pair, up to some levels, and shrink again.
func TestEditGrowsAndShrinks(t *testing.T) {
	random := rand.New(rand.NewPCG(9, 3))
	grew, shrank := map[int]int{}, map[int]int{}
	have := table{}
	level := 0
	step := func(e api.Edit) {
		have = checkEdit(t, fmt.Sprint(len(have), " pairs, ", e.Key, e.Dead), have, []api.Edit{e})
		now := build(t, have.listed()).level()
		if now > level {
			grew[now]++
		}
		if now < level {
			shrank[now]++
		}
		level = now
	}
	keys := random.Perm(150)
	for _, i := range keys {
		step(put(keyOf(i), fmt.Sprint(i)))
	}
	slices.Reverse(keys[:100])
	for _, i := range keys {
		step(drop(keyOf(i)))
	}
	if len(have) != 0 || grew[1] == 0 || grew[2] == 0 || grew[3] == 0 || shrank[2] == 0 || shrank[1] == 0 || shrank[0] == 0 {
		t.Error(len(have), grew, shrank)
	}
}

// P9.1: many edits at once make many levels of none, and none of many; levels
// between them.
func TestEditOfManyLevels(t *testing.T) {
	sizes := []int{0, 1, 2, 6, 20, 60, 300, 2000}
	for _, from := range sizes {
		for _, to := range sizes {
			have, want := tableOf(from), tableOf(to)
			edits := slices.Concat(have.drops(), want.puts())
			if then := checkEdit(t, fmt.Sprint(from, " to ", to), have, edits); len(then) != to {
				t.Error(from, to, len(then))
			}
		}
	}
}

// P9.1: maps and edits of any texts, again and again; on a source that keeps
// all that ever was there.
func TestEditRandom(t *testing.T) {
	random := rand.New(rand.NewPCG(9, 4))
	for range 25 {
		have := table{}
		letters := 1 + random.IntN(256)
		kept := shelf{}
		for range 25 {
			var edits []api.Edit
			for range random.IntN(60) {
				edits = append(edits, api.Edit{
					Key:  randomText(random, 8, letters),
					Val:  randomText(random, 50, 256),
					Dead: random.IntN(3) == 0,
				})
			}
			g := build(t, have.listed())
			for print, n := range g.shelf {
				kept[print] = n
			}
			then := checkEdit(t, "random", have, edits)
			root, fresh, errno := Edit(kept, g.root, edits)
			want := build(t, then.listed())
			if root != want.root || !slices.Equal(fresh, want.other(g)) || errno != api.OK {
				t.Errorf("%x, %d nodes, %d", root, len(fresh), errno)
			}
			have = then
		}
	}
}

func randomText(random *rand.Rand, most, letters int) string {
	b := make([]byte, random.IntN(most+1))
	for i := range b {
		b[i] = byte(random.IntN(letters))
	}
	return string(b)
}

// P9.2: what is there, put again, leads to the same root, without a new node:
// all of it, pieces of it, more than once.
func TestEditOfWhatIsThere(t *testing.T) {
	for _, n := range []int{1, 2, 16, 17, 60, 400} {
		have := tableOf(n)
		g := build(t, have.listed())
		all := have.puts()
		cases := map[string][]api.Edit{
			"all":              all,
			"the first":        all[:1],
			"the last":         all[n-1:],
			"half":             all[n/4 : n/4+(n+1)/2],
			"twice":            slices.Concat(all, all),
			"gone before that": slices.Concat(have.drops(), all),
			"changed before":   slices.Concat([]api.Edit{put(all[n/2].Key, "x")}, all),
			"others are gone":  append([]api.Edit{drop("a"), drop("z"), drop(keyOf(n) + "x")}, all[n/2:]...),
		}
		for what, edits := range cases {
			root, fresh, errno := Edit(g.shelf, g.root, edits)
			if root != g.root || len(fresh) != 0 || errno != api.OK {
				t.Errorf("%d pairs, %s: %x, %d nodes, %d", n, what, root, len(fresh), errno)
			}
			checkEdit(t, what, have, edits)
		}
	}
}

// P9.2: edits, and those that take them back, lead to the root that was there;
// with the nodes that are no longer there among the new ones.
func TestEditAndBack(t *testing.T) {
	random := rand.New(rand.NewPCG(9, 5))
	for range 60 {
		have := tableOf(random.IntN(150))
		g := build(t, have.listed())
		edits := randomEdits(random, 320, random.IntN(50))
		root, fresh, errno := Edit(g.shelf, g.root, edits)
		if errno != api.OK {
			t.Fatal(errno)
		}
		s := prolly.NewHeap(g.nodes...)
		for _, n := range fresh {
			s.Put(n)
		}
		back, again, errno := Edit(s, root, have.takesBack(edits))
		then := build(t, have.edited(edits).listed())
		if back != g.root || !slices.Equal(again, g.other(then)) || errno != api.OK {
			t.Errorf("%x, %d nodes, %d; want %x", back, len(again), errno, g.root)
		}
	}
}

// P9.1: keys and values of the greatest length, and a byte more.
func TestEditLimits(t *testing.T) {
	have := tableOf(40)
	g := build(t, have.listed())
	key, val := strings.Repeat("k", 2000), strings.Repeat("v", 8000)
	fits := [][]api.Edit{
		{put(key, val)},
		{put(keyOf(3), val), put(key, "")},
		{put(strings.Repeat("\xff", 2000), val), put("", val)},
		{{Key: key, Val: val, Dead: true}},
		{{Key: key + "k", Val: val + "v", Dead: true}},
		{{Key: keyOf(4), Val: val + "v", Dead: true}},
		{{Key: strings.Repeat("a", 70000), Dead: true}, {Key: strings.Repeat("z", 70000), Val: strings.Repeat("z", 70000), Dead: true}},
		{put(key, val), drop(key)},
	}
	for i, edits := range fits {
		checkEdit(t, fmt.Sprint("fits ", i), have, edits)
		checkEdit(t, fmt.Sprint("fits, of the empty map ", i), table{}, edits)
	}
	long := [][]api.Edit{
		{put(key+"k", "")},
		{put("a", val+"v")},
		{put(strings.Repeat("k", 65536), "")},
		{put("a", strings.Repeat("v", 65536))},
		{put("a", "b"), drop("c"), put("d", val+"v")},
		{put(key+"k", ""), put("a", "b")},
		{put("a", val+"v"), put("a", "b")},
		{put("a", val+"v"), drop("a")},
		{put(key+"k", "b"), drop(key + "k")},
	}
	for i, edits := range long {
		checkRefused(t, fmt.Sprint("too long ", i), g.shelf, g.root, edits, api.ErrLimit)
		checkRefused(t, fmt.Sprint("too long, of the empty map ", i), shelf{sha("P\x00\x00"): "P\x00\x00"}, sha("P\x00\x00"), edits, api.ErrLimit)
		// R1: it stands ahead of ErrLost.
		checkRefused(t, fmt.Sprint("too long, and lost ", i), shelf{}, g.root, edits, api.ErrLimit)
		checkRefused(t, fmt.Sprint("too long, without a source ", i), nil, "", edits, api.ErrLimit)
	}
}

// P9.1: trees of the longest keys and values.
func TestEditOfLongPairs(t *testing.T) {
	have := table{}
	for i := range 60 {
		have[strings.Repeat("k", 1998)+fmt.Sprintf("%02d", i)] = strings.Repeat("v", 8000)
	}
	for i, p := range have.listed() {
		checkEdit(t, fmt.Sprint("taken away ", i), have, []api.Edit{drop(p.Key)})
		checkEdit(t, fmt.Sprint("changed ", i), have, []api.Edit{put(p.Key, strings.Repeat("w", 8000))})
	}
}

// R4: what Edit answers is the caller's own, and it keeps nothing: it answers
// the same again (R7).
func TestEditAgain(t *testing.T) {
	have := tableOf(90)
	g := build(t, have.listed())
	edits := []api.Edit{put("k00001", "x"), drop(keyOf(40)), put("z", "y")}
	root, fresh, _ := Edit(g.shelf, g.root, edits)
	want := slices.Clone(fresh)
	for i := range fresh {
		fresh[i] = "changed"
	}
	fresh = append(fresh, "more")
	for range 3 {
		again, nodes, errno := Edit(g.shelf, g.root, edits)
		if again != root || !slices.Equal(nodes, want) || errno != api.OK {
			t.Errorf("%x, %d nodes, %d", again, len(nodes), errno)
		}
	}
	if len(g.shelf) != len(g.nodes) {
		t.Error(len(g.shelf))
	}
}

// P0: long lists of edits, in good time.
func TestEditLong(t *testing.T) {
	const n = 60000
	random := rand.New(rand.NewPCG(9, 6))
	have := table{}
	var edits []api.Edit
	for range n {
		e := put(keyOf(random.IntN(n)), "v")
		have[e.Key] = e.Val
		edits = append(edits, e)
	}
	checkEdit(t, "of the empty map", table{}, edits)
	for i := range edits {
		edits[i].Dead = true
	}
	checkEdit(t, "all taken away", have, edits)
	checkEdit(t, "one key", table{}, slices.Repeat([]api.Edit{put("a", "b"), drop("a")}, n))
}
