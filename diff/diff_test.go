package diff

import (
	"fmt"
	"maps"
	"math/rand/v2"
	"slices"
	"strings"
	"testing"

	"pleach/api"
	"pleach/prolly"
	"pleach/sums"
)

// P10.1: the chapter's example: of two maps that are one there is nothing, and
// no node is asked for, so that there needn't be any.
func TestDiffOfOneMap(t *testing.T) {
	roots := []string{"", "x", sha("x"), sums.Print("P\x00\x00")}
	for _, n := range []int{0, 1, 16, 17, 300} {
		have := tableOf(n)
		checkDiff(t, fmt.Sprint(n, " pairs"), have, maps.Clone(have))
		roots = append(roots, build(t, have).root)
	}
	for _, root := range roots {
		w := &watch{Source: prolly.NewHeap()}
		for _, s := range []prolly.Source{nil, (*prolly.Heap)(nil), w} {
			if l, errno := Diff(s, root, strings.Clone(root)); len(l) != 0 || errno != api.OK {
				t.Errorf("%x: %v, %d", root, l, errno)
			}
			for c := range Changes(s, root, root) {
				t.Errorf("%x: %v", root, c)
			}
		}
		if len(w.asked) != 0 {
			t.Errorf("%x: %d nodes were asked for", root, len(w.asked))
		}
	}
}

// P10.1: what is told of small maps, as they are written out.
func TestDiffOfFewPairs(t *testing.T) {
	a := table{"a": "1", "b": "", "c": "3", "e": "", "g": "7"}
	b := table{"a": "2", "b": "", "d": "", "e": "5", "g": ""}
	was, is := build(t, a), build(t, b)
	want := []api.Change{
		{Key: "a", Old: "1", New: "2", HasOld: true, HasNew: true},
		{Key: "c", Old: "3", HasOld: true},
		{Key: "d", HasNew: true},
		{Key: "e", New: "5", HasOld: true, HasNew: true},
		{Key: "g", Old: "7", HasOld: true, HasNew: true},
	}
	heap := prolly.NewHeap(slices.Concat(was.nodes, is.nodes)...)
	got, errno := Diff(heap, was.root, is.root)
	if !slices.Equal(got, want) || errno != api.OK {
		t.Error(got, errno)
	}
	checkDiff(t, "few pairs", a, b)
}

// P10.1, P10.2: the empty map and others.
func TestDiffOfTheEmptyMap(t *testing.T) {
	for _, n := range []int{1, 2, 3, 15, 16, 17, 60, 400} {
		checkDiff(t, fmt.Sprint(n, " pairs"), table{}, tableOf(n))
	}
	for _, key := range []string{"", "\x00", "a", strings.Repeat("k", 2000)} {
		for _, val := range []string{"", "\x00", strings.Repeat("v", 8000)} {
			checkDiff(t, fmt.Sprintf("%.5q, %.5q", key, val), table{}, table{key: val})
		}
	}
}

// P10.1, P10.2: a key more, a key less, and another value, at each place of
// trees whose roots are of each level from 0 to 3.
func TestDiffOfOneKey(t *testing.T) {
	levels := map[int]int{}
	for _, n := range []int{1, 2, 3, 7, 16, 17, 30, 130} {
		have := tableOf(n)
		what := fmt.Sprint(n, " pairs, ")
		for i := range n {
			key := keyOf(2 * i)
			checkDiff(t, what+"another value at "+key, have, have.with(key, "new"))
			checkDiff(t, what+"an empty value at "+key, have, have.with(key, ""))
			checkDiff(t, what+"a longer value at "+key, have, have.with(key, have[key]+"\x00"))
			checkDiff(t, what+"less "+key, have, have.without(key))
			checkDiff(t, what+"more behind "+key, have, have.with(key+"\x00", "new"))
			checkDiff(t, what+"more behind, empty, "+key, have, have.with(keyOf(2*i+1), ""))
			checkDiff(t, what+"another key than "+key, have, have.without(key).with(keyOf(2*i+1), have[key]))
		}
		for _, key := range []string{"", "a", "k", "z", "\xff"} {
			checkDiff(t, what+"more at "+key, have, have.with(key, "new"))
			checkDiff(t, what+"more, empty, at "+key, have, have.with(key, ""))
		}
		levels[build(t, have).level()]++
	}
	for level := range 4 {
		if levels[level] == 0 {
			t.Error("no root of level ", level)
		}
	}
}

// P10.1: a key whose value is empty is told from one that isn't there.
func TestDiffOfEmptyValues(t *testing.T) {
	for _, n := range []int{1, 5, 17, 100} {
		have := table{}
		for i := range n {
			have[keyOf(i)] = ""
		}
		for _, key := range []string{keyOf(0), keyOf(n / 2), keyOf(n - 1)} {
			what := fmt.Sprint(n, " pairs, ", key)
			checkDiff(t, what, have, have.without(key))
			checkDiff(t, what+" has a value", have, have.with(key, "x"))
			checkDiff(t, what+" is another one", have, have.without(key).with(key+"x", ""))
			g, less := build(t, have), build(t, have.without(key))
			l, _ := Diff(both(g, less), g.root, less.root)
			if want := (api.Change{Key: key, HasOld: true}); len(l) != 1 || l[0] != want {
				t.Error(what, l)
			}
			l, _ = Diff(both(g, less), less.root, g.root)
			if want := (api.Change{Key: key, HasNew: true}); len(l) != 1 || l[0] != want {
				t.Error(what, l)
			}
		}
	}
}

// P10.1, P10.2: maps of unlike levels: of which one is the beginning of the
// other one, its end, each so-and-so-manieth key, or something else.
func TestDiffOfUnlikeLevels(t *testing.T) {
	sizes := []int{0, 1, 2, 3, 4, 6, 16, 17, 40, 130, 500}
	levels := map[[2]int]int{}
	for _, n := range sizes {
		have := tableOf(n)
		l := have.listed()
		for _, m := range sizes {
			if m >= n {
				continue
			}
			begin, end, some, other := table{}, table{}, table{}, table{}
			for i := range m {
				begin[l[i].Key] = l[i].Val
				end[l[n-1-i].Key] = l[n-1-i].Val
				some[l[i*n/m].Key] = l[i*n/m].Val
				other[keyOf(2*i+1)] = "other"
			}
			what := fmt.Sprint(n, " and ", m, " pairs: ")
			checkDiff(t, what+"the beginning", begin, have)
			checkDiff(t, what+"the end", end, have)
			checkDiff(t, what+"some", some, have)
			checkDiff(t, what+"other ones", other, have)
			levels[[2]int{build(t, begin).level(), build(t, have).level()}]++
		}
	}
	for a := range 3 {
		for b := a + 1; b <= 3; b++ {
			if levels[[2]int{a, b}] == 0 {
				t.Error("no two roots of levels ", a, b)
			}
		}
	}
}

// P10.1, P10.2: a map that is one node of another one: the root of a level that
// stands below the other root.
func TestDiffOfPieces(t *testing.T) {
	have := tableOf(300)
	g := build(t, have)
	pieces := map[int]int{}
	for i, n := range g.nodes {
		piece := table{}
		for key, val := range prolly.All(g.shelf, sha(n)) {
			piece[key] = val
		}
		if p := build(t, piece); p.root == sha(n) {
			pieces[level(n)]++
			checkDiff(t, fmt.Sprint("node ", i), have, piece)
		}
	}
	if pieces[0] < 10 || pieces[1] < 5 || pieces[2] == 0 {
		t.Error(pieces)
	}
}

// P10.1, P10.2: maps that have nothing in common: keys ahead, behind, between;
// and the same keys with other values throughout.
func TestDiffOfNothingInCommon(t *testing.T) {
	for _, n := range []int{1, 3, 17, 60, 300} {
		have := tableOf(n)
		for _, m := range []int{1, 4, 16, 50, 300} {
			ahead, behind, between := table{}, table{}, table{}
			for i := range m {
				ahead[fmt.Sprintf("a%04d", i)] = "x"
				behind[fmt.Sprintf("z%04d", i)] = "x"
				between[keyOf(2*i+1)] = "x"
			}
			what := fmt.Sprint(n, " and ", m, " pairs: ")
			checkDiff(t, what+"ahead", have, ahead)
			checkDiff(t, what+"behind", have, behind)
			checkDiff(t, what+"between", have, between)
		}
		values := table{}
		for key, val := range have {
			values[key] = val + "x"
		}
		checkDiff(t, fmt.Sprint(n, " pairs: other values"), have, values)
	}
}

// P10.1: maps that share most nodes of level 0: these are not asked for.
func TestDiffOfSharedNodes(t *testing.T) {
	random := rand.New(rand.NewPCG(10, 1))
	have := tableOf(2000)
	was := build(t, have)
	for _, m := range []int{1, 2, 5, 20} {
		other := maps.Clone(have)
		for range m {
			i := random.IntN(4002)
			if val, there := other[keyOf(i)]; there && random.IntN(2) == 0 {
				other[keyOf(i)] = val + "x"
			} else if there {
				delete(other, keyOf(i))
			} else {
				other[keyOf(i)] = "new"
			}
		}
		checkDiff(t, fmt.Sprint(m, " changes"), have, other)
		is := build(t, other)
		shared, asked := 0, needed(was, is)
		for print, n := range was.shelf {
			if level(n) == 0 && is.has(print) {
				shared++
				if _, there := slices.BinarySearch(asked, print); there {
					t.Error("a shared node is asked for")
				}
			}
		}
		if shared < 200 {
			t.Error(m, shared)
		}
	}
}

// P10.1, P10.2: maps of few keys and values, of many forms.
func TestDiffRandom(t *testing.T) {
	random := rand.New(rand.NewPCG(10, 2))
	for i := range 1500 {
		room := 1 + random.IntN(60)
		a, b := randomTable(random, room), randomTable(random, room)
		if i%2 == 0 {
			b = changed(random, a, random.IntN(6))
		}
		checkDiff(t, fmt.Sprint("maps ", i), a, b)
	}
}

// randomTable is a table of keys out of so many of the same length, or of any
// ones.
func randomTable(random *rand.Rand, room int) table {
	t := table{}
	for range random.IntN(2 * room) {
		t[randomKey(random, room)] = randomText(random, 2)
	}
	return t
}

func randomKey(random *rand.Rand, room int) string {
	if random.IntN(8) == 0 {
		return randomText(random, 4)
	}
	return keyOf(random.IntN(room))
}

// randomText is a text of few letters, among them the lowest and the highest.
func randomText(random *rand.Rand, most int) string {
	const letters = "\x00\x01ab\xfe\xff"
	var b strings.Builder
	for range random.IntN(most + 1) {
		b.WriteByte(letters[random.IntN(len(letters))])
	}
	return b.String()
}

// changed is a table that is unlike at some keys.
func changed(random *rand.Rand, have table, n int) table {
	other := maps.Clone(have)
	l := have.listed()
	for range n {
		switch {
		case random.IntN(3) == 0 || len(l) == 0:
			other[randomKey(random, 60)] = "new"
		case random.IntN(2) == 0:
			other[l[random.IntN(len(l))].Key] = "other"
		default:
			delete(other, l[random.IntN(len(l))].Key)
		}
	}
	return other
}

// P10.1: the longest keys and values.
func TestDiffOfLongPairs(t *testing.T) {
	have := table{}
	for i := range 20 {
		have[strings.Repeat("k", 1998)+fmt.Sprintf("%02d", i)] = strings.Repeat("v", 8000)
	}
	for i, p := range have.listed() {
		checkDiff(t, fmt.Sprint("less ", i), have, have.without(p.Key))
		checkDiff(t, fmt.Sprint("another value ", i), have, have.with(p.Key, p.Val[:7999]+"w"))
	}
	checkDiff(t, "all", have, table{})
}

// P10.1: Apply of each kind of change, of none, and of such as no two maps
// lead to.
func TestApply(t *testing.T) {
	for _, l := range [][]api.Change{nil, {}} {
		if edits := Apply(l); len(edits) != 0 {
			t.Error(edits)
		}
	}
	cases := []struct {
		change api.Change
		want   api.Edit
	}{
		{api.Change{Key: "k", New: "n", HasNew: true}, api.Edit{Key: "k", Val: "n"}},
		{api.Change{Key: "k", HasNew: true}, api.Edit{Key: "k"}},
		{api.Change{HasNew: true}, api.Edit{}},
		{api.Change{Key: "k", Old: "o", New: "n", HasOld: true, HasNew: true}, api.Edit{Key: "k", Val: "n"}},
		{api.Change{Key: "k", Old: "o", HasOld: true, HasNew: true}, api.Edit{Key: "k"}},
		{api.Change{Key: "k", Old: "o", HasOld: true}, api.Edit{Key: "k", Dead: true}},
		{api.Change{Key: "k", HasOld: true}, api.Edit{Key: "k", Dead: true}},
		{api.Change{Key: "k"}, api.Edit{Key: "k", Dead: true}},
		{api.Change{Key: "k", Old: "o", New: "n", HasOld: true}, api.Edit{Key: "k", Dead: true}},
		{api.Change{Key: "k", Old: "o", New: "n"}, api.Edit{Key: "k", Dead: true}},
	}
	var all []api.Change
	var want []api.Edit
	for _, c := range cases {
		if edits := Apply([]api.Change{c.change}); len(edits) != 1 || edits[0] != c.want {
			t.Error(c.change, edits)
		}
		all = append(all, c.change)
		want = append(want, c.want)
	}
	// In order, also where one key has several, or they don't rise.
	slices.Reverse(all)
	slices.Reverse(want)
	was := slices.Clone(all)
	if edits := Apply(all); !slices.Equal(edits, want) || !slices.Equal(all, was) {
		t.Error(edits)
	}
}

// R4, R7: what is answered is the caller's own, and is the same again.
func TestDiffAgain(t *testing.T) {
	a := tableOf(90)
	b := a.without(keyOf(8), keyOf(100)).with("a", "new").with(keyOf(40), "new")
	was, is := build(t, a), build(t, b)
	s := both(was, is)
	l, _ := Diff(s, was.root, is.root)
	edits := Apply(l)
	for i := range l {
		l[i], edits[i] = api.Change{Key: "changed"}, api.Edit{Key: "changed"}
	}
	l = append(l, api.Change{Key: "more"})
	want := wantChanges(a, b)
	for range 3 {
		if again, errno := Diff(s, was.root, is.root); !slices.Equal(again, want) || errno != api.OK {
			t.Error(again, errno)
		}
		checkApply(t, "again", s, was.root, is.root, want)
	}
	if len(l) != len(want)+1 {
		t.Error(len(l))
	}
}

// P10.1: two runs that are gone through at once don't disturb one another, and a
// run tells what is there when it is gone through.
func TestChangesAtOnce(t *testing.T) {
	a, b := tableOf(40), tableOf(40).without(keyOf(10)).with("z", "new").with(keyOf(40), "x")
	was, is := build(t, a), build(t, b)
	s := both(was, is)
	want := wantChanges(a, b)
	run := Changes(s, was.root, is.root)
	n := 0
	for c := range run {
		for d := range Changes(s, is.root, was.root) {
			if c.Key == d.Key && (c.Old != d.New || c.New != d.Old) {
				t.Error(c, d)
			}
		}
		if inner := slices.Collect(run); !slices.Equal(inner, want) {
			t.Error(inner)
		}
		if c != want[n] {
			t.Error(n, c)
		}
		n++
	}
	if n != len(want) {
		t.Error(n)
	}
}

// P0: long maps, in good time.
func TestDiffLong(t *testing.T) {
	random := rand.New(rand.NewPCG(10, 3))
	a, b := table{}, table{}
	for range 60000 {
		a[keyOf(random.IntN(90000))] = "v"
		b[keyOf(random.IntN(90000))] = "v"
	}
	checkDiff(t, "many changes", a, b)
	checkDiff(t, "few changes", a, changed(random, a, 20))
	checkDiff(t, "nothing in one", a, table{})
}
