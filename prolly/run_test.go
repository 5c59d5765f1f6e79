package prolly

import (
	"fmt"
	"iter"
	"math/rand/v2"
	"slices"
	"strings"
	"testing"

	"pleach/seq"
)

// aboveAll is above each key.
var aboveAll = strings.Repeat("\xff", 2001)

// wantRange is what Range must tell of a tree in which one node at most
// doesn't stand as it must: the pairs of the leaves ahead of that node.
func wantRange(top, bad *tree, from, to string) []pair {
	var want []pair
	leaves, ways := top.leaves()
	for i, leaf := range leaves {
		if !leaf.has(from, to) {
			continue
		}
		if slices.Contains(ways[i], bad) {
			break
		}
		for _, p := range leaf.pairs {
			if p.Key >= from && p.Key < to {
				want = append(want, p)
			}
		}
	}
	return want
}

// checkAsked holds what was asked for against the promise: no node twice, each
// node with such keys, and one more at most on each level.
func checkAsked(t *testing.T, what string, asked []string, nodes map[string]*tree, from, to string) {
	t.Helper()
	times := map[*tree]int{}
	more := map[int]int{}
	for _, print := range asked {
		n := nodes[print]
		if n == nil {
			t.Fatalf("%s: something else was asked for", what)
		}
		times[n]++
		if !n.has(from, to) {
			more[n.level]++
		}
		if times[n] > 1 || more[n.level] > 1 {
			t.Errorf("%s: more of level %d was asked for than need be", what, n.level)
		}
	}
	for _, n := range nodes {
		if n.has(from, to) && times[n] == 0 {
			t.Errorf("%s: a node of level %d with such keys wasn't asked for", what, n.level)
		}
	}
}

// byPrints answers all nodes of a tree by their fingerprints.
func byPrints(top *tree) map[string]*tree {
	nodes := map[string]*tree{}
	for _, n := range top.all() {
		nodes[n.print()] = n
	}
	return nodes
}

// P8.1: All of maps of many sizes asks for each node once, in order, and for
// nothing ahead of being gone through; gone through again it is the same.
func TestAll(t *testing.T) {
	for _, n := range []int{0, 1, 2, 16, 17, 45, 300, 2000} {
		l := mapOf(n)
		top := grown(l)
		w := &watch{Source: top.source()}
		run := All(w, top.print())
		if len(w.asked) != 0 {
			t.Errorf("%d: asked ahead of being gone through", n)
		}
		for range 2 {
			w.asked = nil
			checkSame(t, fmt.Sprint(n), seq.List(run), l)
			if !slices.Equal(w.asked, prints(top.all())) {
				t.Errorf("%d: %d asked for", n, len(w.asked))
			}
		}
	}
}

// P8.1: Range from and to keys, texts between, below and above them, the wrong
// way round, and empty texts, all pairs of these.
func TestRange(t *testing.T) {
	for _, n := range []int{0, 1, 2, 5, 24} {
		l := mapOf(n)
		top := grown(l)
		s, root, nodes := top.source(), top.print(), byPrints(top)
		for _, from := range bounds(l) {
			for _, to := range bounds(l) {
				what := fmt.Sprintf("%d pairs, from %q to %q", n, from, to)
				w := &watch{Source: s}
				checkSame(t, what, seq.List(Range(w, root, from, to)), wantRange(top, nil, from, to))
				checkAsked(t, what, w.asked, nodes, from, to)
			}
		}
	}
}

// P8.1: Range in a map of more levels, at some of these texts.
func TestRangeOfMany(t *testing.T) {
	random := rand.New(rand.NewPCG(8, 5))
	l := mapOf(400)
	top := grown(l)
	s, root, nodes := top.source(), top.print(), byPrints(top)
	texts := append(bounds(l), aboveAll)
	for range 300 {
		from, to := texts[random.IntN(len(texts))], texts[random.IntN(len(texts))]
		what := fmt.Sprintf("from %q to %.9q", from, to)
		w := &watch{Source: s}
		checkSame(t, what, seq.List(Range(w, root, from, to)), wantRange(top, nil, from, to))
		checkAsked(t, what, w.asked, nodes, from, to)
	}
	checkSame(t, "all", seq.List(Range(s, root, "", aboveAll)), l)
	checkSame(t, "none", seq.List(Range(s, root, "", "")), nil)
	checkSame(t, "the wrong way round", seq.List(Range(s, root, "k00100", "k00050")), nil)
	checkSame(t, "one", seq.List(Range(s, root, "k00100", "k00101")), l[50:51])
	checkSame(t, "to isn't in it", seq.List(Range(s, root, "k00100", "k00104")), l[50:52])
	checkSame(t, "the rest", seq.List(Range(s, root, "k00789", "l")), l[395:])
}

// P8.1: keys of any bytes, some of which begin others.
func TestRunsOfRandomMaps(t *testing.T) {
	random := rand.New(rand.NewPCG(8, 6))
	for i := range 60 {
		l := randomMap(random, random.IntN(150))
		top := grown(l)
		s := top.source()
		checkSame(t, fmt.Sprint("map ", i), seq.List(All(s, top.print())), l)
		for range 40 {
			from, to := randomText(random, 12, 8), randomText(random, 12, 256)
			what := fmt.Sprintf("map %d from %q to %q", i, from, to)
			checkSame(t, what, seq.List(Range(s, top.print(), from, to)), wantRange(top, nil, from, to))
			checkFind(t, what, s, top, nil, from)
		}
	}
}

// P8.1: of a source that lacks each node in turn All and Range tell what
// stands ahead of it; where it isn't on the way, all.
func TestRunsLacking(t *testing.T) {
	random := rand.New(rand.NewPCG(8, 7))
	l := mapOf(60)
	top := grown(l)
	texts := append(bounds(l), aboveAll)
	for i, gone := range top.all() {
		s := top.source().without(gone.print())
		what := fmt.Sprint("without node ", i)
		checkSame(t, what, seq.List(All(s, top.print())), wantRange(top, gone, "", aboveAll))
		for range 200 {
			from, to := texts[random.IntN(len(texts))], texts[random.IntN(len(texts))]
			checkSame(t, fmt.Sprintf("%s, from %q to %.9q", what, from, to), seq.List(Range(s, top.print(), from, to)), wantRange(top, gone, from, to))
		}
	}
}

// leaveOff goes through n pairs of a run and leaves it off there, and fails if
// the run goes on.
func leaveOff(t *testing.T, run iter.Seq2[string, string], n int) []pair {
	t.Helper()
	var got []pair
	run(func(key, val string) bool {
		if len(got) == n {
			t.Errorf("the run went on behind %d pairs", n)
			return false
		}
		got = append(got, pair{Key: key, Val: val})
		return len(got) < n
	})
	return got
}

// P8.1: a run that is left early asks for no more: the last node that was
// asked for is the one that has the last pair.
func TestRunsLeftEarly(t *testing.T) {
	l := mapOf(60)
	top := grown(l)
	s, root, nodes := top.source(), top.print(), byPrints(top)
	for first := 0; first < len(l); first += 7 {
		for n := 1; first+n <= len(l); n++ {
			w := &watch{Source: s}
			from := l[first].Key
			what := fmt.Sprintf("%d pairs from %q", n, from)
			checkSame(t, what, leaveOff(t, Range(w, root, from, aboveAll), n), l[first:first+n])
			last := l[first+n-1].Key
			checkAsked(t, what, w.asked, nodes, from, last+"\x00")
			way := top.way(last)
			if w.asked[len(w.asked)-1] != way[len(way)-1].print() {
				t.Errorf("%s: more was asked for", what)
			}
		}
	}
	for n := 1; n <= len(l); n++ {
		w := &watch{Source: s}
		checkSame(t, fmt.Sprint("all up to ", n), leaveOff(t, All(w, root), n), l[:n])
		if want := prints(aheadOf(top, l[n-1].Key)); !slices.Equal(w.asked, want) {
			t.Errorf("all up to %d: %d asked for, want %d", n, len(w.asked), len(want))
		}
	}
}

// aheadOf answers the nodes that All goes through up to the one with that key.
func aheadOf(top *tree, key string) []*tree {
	way := top.way(key)
	all := top.all()
	return all[:slices.Index(all, way[len(way)-1])+1]
}

// P8.1: a run that was left off begins anew, and may be gone through while it
// is being gone through.
func TestRunsAgain(t *testing.T) {
	l := mapOf(40)
	top := grown(l)
	for what, run := range map[string]iter.Seq2[string, string]{
		"All":   All(top.source(), top.print()),
		"Range": Range(top.source(), top.print(), "", aboveAll),
	} {
		leaveOff(t, run, 7)
		i := 0
		for key := range run {
			if i%11 == 0 {
				checkSame(t, what+" within "+key, seq.List(run), l)
			}
			i++
		}
		if i != len(l) {
			t.Error(what, i)
		}
	}
}

// P8.1: what is put while a run is gone through is seen, and what is gone
// behind its end plays no part: a run asks for a node when it comes by it.
func TestRunAsksWhenItComesBy(t *testing.T) {
	l := mapOf(60)
	top := grown(l)
	leaves, _ := top.leaves()
	h := NewHeap()
	for _, n := range top.all() {
		if n != leaves[2] {
			h.Put(n.text())
		}
	}
	run := All(h, top.print())
	ahead := len(leaves[0].pairs) + len(leaves[1].pairs)
	checkSame(t, "lacking", seq.List(run), l[:ahead])
	var got []pair
	for key, val := range run {
		got = append(got, pair{Key: key, Val: val})
		if len(got) == ahead {
			h.Put(leaves[2].text())
		}
	}
	checkSame(t, "put on the way", got, l)
}
