package node

import (
	"crypto/sha256"
	"encoding/binary"
	"fmt"
	"math/rand/v2"
	"slices"
	"strings"
	"testing"

	"pleach/split"
)

// What stands here is what the layers built on this package rest on; the tests
// of prolly hold the rules of nodes, and those of weave how rows are cut.

func sha(text string) string {
	sum := sha256.Sum256([]byte(text))
	return string(sum[:])
}

// wantItem is the item of a key and a value.
func wantItem(p Pair) string {
	var b []byte
	for _, text := range []string{p.Key, p.Val} {
		b = binary.BigEndian.AppendUint16(b, uint16(len(text)))
		b = append(b, text...)
	}
	return string(b)
}

func wantNode(level int, items []Pair) string {
	text := string([]byte{'P', byte(level), byte(len(items))})
	for _, p := range items {
		text += wantItem(p)
	}
	return text
}

// told is an item above level 0.
func told(key, print string, count uint64) Pair {
	return Pair{Key: key, Val: print + string(binary.BigEndian.AppendUint64(nil, count))}
}

// rowOf is a row of n items of a level.
func rowOf(random *rand.Rand, level, n int) []Pair {
	var row []Pair
	for i := range n {
		p := Pair{Key: fmt.Sprintf("k%04d", i), Val: fmt.Sprint(random.IntN(1000))}
		if level > 0 {
			p = told(p.Key, sha(p.Val), 1+random.Uint64N(1000))
		}
		row = append(row, p)
	}
	return row
}

// P8.1: Row cuts a row into nodes, each with its item: of level 0 its count is
// that of its items, above that the sum of theirs.
func TestRow(t *testing.T) {
	random := rand.New(rand.NewPCG(8, 1))
	for _, level := range []int{0, 1, 7, 32} {
		for n := range 60 {
			row := rowOf(random, level, n)
			texts, above, left := Row(level, row, false)
			var items []string
			for _, p := range row {
				items = append(items, wantItem(p))
			}
			rest := row
			for i, size := range split.Cut(items) {
				part := rest[:size]
				rest = rest[size:]
				sum := uint64(size)
				if level > 0 {
					sum = 0
					for _, p := range part {
						sum += binary.BigEndian.Uint64([]byte(p.Val[32:]))
					}
				}
				want := wantNode(level, part)
				if texts[i] != want || above[i] != told(part[size-1].Key, sha(want), sum) {
					t.Errorf("level %d, %d items, node %d: %q, %q", level, n, i, texts[i], above[i])
				}
			}
			if len(texts) != len(split.Cut(items)) || len(above) != len(texts) || len(left) != 0 {
				t.Errorf("level %d, %d items: %d, %d, %d", level, n, len(texts), len(above), len(left))
			}
		}
	}
}

// P7.2: of a row behind which more items follow, Row makes the nodes that it
// has whatever follows, and leaves the rest.
func TestRowWithMore(t *testing.T) {
	random := rand.New(rand.NewPCG(8, 2))
	whole, cut := 0, 0
	for n := range 300 {
		n %= 60
		row := rowOf(random, 0, n)
		was := slices.Clone(row)
		texts, above, left := Row(0, row, true)
		if !slices.Equal(row, was) {
			t.Error("the row was changed")
		}
		for _, val := range []string{"", "a", "b", "c", "d", "e", "f", "g"} {
			next := Pair{Key: "z", Val: val}
			all, items, _ := Row(0, append(slices.Clone(row), next), false)
			last := len(all) - 1
			if !slices.Equal(texts, all[:last]) || !slices.Equal(above, items[:last]) {
				t.Errorf("%d items: %d nodes, want %d", n, len(texts), last)
			}
			if all[last] != wantNode(0, append(slices.Clone(left), next)) {
				t.Errorf("%d items: %d left", n, len(left))
			}
		}
		if n > 0 && len(left) == 0 {
			whole++
		}
		if len(left) > 0 {
			cut++
		}
	}
	if whole == 0 || cut == 0 {
		t.Error(whole, cut)
	}
}

// P8.1: what is read is what was written.
func TestRead(t *testing.T) {
	random := rand.New(rand.NewPCG(8, 3))
	for _, level := range []int{0, 1, 32} {
		texts, _, _ := Row(level, rowOf(random, level, 50), false)
		at := 0
		for _, text := range texts {
			n, right := Read(text)
			if !right || n.Level != level || wantNode(level, n.Items) != text {
				t.Errorf("%q: %v, %t", text, n, right)
			}
			at += len(n.Items)
			if n, right = Read(text + "x"); right || n.Level != 0 || n.Items != nil {
				t.Error(n, right)
			}
		}
		if at != 50 {
			t.Error(at)
		}
	}
	if n, right := Read(Empty); !right || n.Level != 0 || len(n.Items) != 0 || Empty != wantNode(0, nil) {
		t.Error(n, right)
	}
}

// shelf is a source.
type shelf map[string]string

func (s shelf) Get(print string) (string, bool) {
	text, found := s[print]
	return text, found
}

// P8.1: Below answers the node of a level less, with that last key and count.
func TestBelow(t *testing.T) {
	text := wantNode(1, []Pair{told("a", sha("x"), 5), told("c", sha("y"), 7)})
	s := shelf{sha(text): text, sha("bad"): "bad", sha(Empty): Empty}
	cases := []struct {
		what  string
		s     Source
		level int
		item  Pair
		found bool
	}{
		{"as it must", s, 2, told("c", sha(text), 12), true},
		{"another level", s, 1, told("c", sha(text), 12), false},
		{"a level above", s, 3, told("c", sha(text), 12), false},
		{"another key", s, 2, told("a", sha(text), 12), false},
		{"a count below", s, 2, told("c", sha(text), 11), false},
		{"a count above", s, 2, told("c", sha(text), 13), false},
		{"another print", s, 2, told("c", sha("x"), 12), false},
		{"not right", s, 2, told("c", sha("bad"), 12), false},
		{"empty", s, 1, told("", sha(Empty), 1), false},
		{"no item above level 0", s, 2, Pair{Key: "c", Val: sha(text)}, false},
		{"no source", nil, 2, told("c", sha(text), 12), false},
	}
	for _, c := range cases {
		n, found := Below(c.s, c.level, c.item)
		if found != c.found || found && (n.Level != 1 || len(n.Items) != 2) || !found && (n.Level != 0 || n.Items != nil) {
			t.Error(c.what, n, found)
		}
	}
}

// P8.1: what an item above level 0 tells; others tell nothing.
func TestTold(t *testing.T) {
	if print, count, right := Told(told("k", sha("x"), 1<<40)); print != sha("x") || count != 1<<40 || !right {
		t.Error(print, count, right)
	}
	for _, p := range []Pair{{}, {Val: sha("x")}, told("k", sha("x"), 0), told("k", sha("x"), 1<<40+1), told("k", sha("x"), 1<<63), told("k", "x"+sha("x"), 1)} {
		if print, count, right := Told(p); print != "" || count != 0 || right {
			t.Error(p, print, count, right)
		}
	}
}

// P8.1: From answers what isn't below a key.
func TestFrom(t *testing.T) {
	n := Node{Items: []Pair{{Key: "b"}, {Key: "d"}, {Key: "f"}}}
	for key, want := range map[string]string{"": "bdf", "a": "bdf", "b": "bdf", "b\x00": "df", "d": "df", "e": "f", "f": "f", "g": ""} {
		var got strings.Builder
		for _, p := range n.From(key) {
			got.WriteString(p.Key)
		}
		if got.String() != want {
			t.Error(key, got.String())
		}
	}
}

// P8.1: keys rise, and neither they nor values are too long.
func TestMayMap(t *testing.T) {
	text := func(n int) string { return strings.Repeat("x", n) }
	cases := []struct {
		l   []Pair
		may bool
	}{
		{nil, true},
		{[]Pair{{}}, true},
		{[]Pair{{}, {Key: "\x00"}, {Key: "a"}, {Key: "aa"}}, true},
		{[]Pair{{Key: "a"}, {Key: "a"}}, false},
		{[]Pair{{Key: "a"}, {Key: "c"}, {Key: "b"}}, false},
		{[]Pair{{Key: text(2000), Val: text(8000)}}, true},
		{[]Pair{{Key: "a"}, {Key: text(2001)}}, false},
		{[]Pair{{Key: "a", Val: text(8001)}, {Key: "b"}}, false},
	}
	for i, c := range cases {
		if MayMap(c.l) != c.may {
			t.Error(i)
		}
	}
}

// P9.1, P10.1: a tree that is read: the rows of items of its nodes, its nodes,
// and which of them it has; all nodes above level 0 are asked for, each once.
func TestTree(t *testing.T) {
	random := rand.New(rand.NewPCG(8, 4))
	for _, n := range []int{0, 1, 2, 20, 400} {
		s := shelf{sha(Empty): Empty}
		row, root := rowOf(random, 0, n), sha(Empty)
		var rows [][]Pair
		var nodes [][]string
		for level := 0; len(row) > 0; level++ {
			texts, above, _ := Row(level, row, false)
			for _, text := range texts {
				s[sha(text)] = text
			}
			rows, nodes = append(rows, above), append(nodes, texts)
			row, root = above, sha(texts[0])
			if len(texts) == 1 {
				break
			}
		}
		checkTree(t, fmt.Sprint(n, " pairs"), s, root, rows, nodes)
	}
	if _, found := ReadTree(nil, sha(Empty)); found {
		t.Error("a tree of no source")
	}
}

// count is a source that counts how often it is asked for each text.
type count struct {
	Source
	asked map[string]int
}

func (c count) Get(print string) (string, bool) {
	c.asked[print]++
	return c.Source.Get(print)
}

func checkTree(t *testing.T, what string, s shelf, root string, rows [][]Pair, nodes [][]string) {
	t.Helper()
	c := count{s, map[string]int{}}
	tree, found := ReadTree(c, root)
	if !found || tree.Root != root || wantNode(tree.Top.Level, tree.Top.Items) != s[root] {
		t.Fatal(what, found, tree.Top)
	}
	for level, row := range rows {
		if !slices.Equal(tree.Row(level), row) || len(tree.Row(len(rows))) != 0 {
			t.Error(what, "level", level)
		}
		for at, item := range row {
			text := nodes[level][at]
			if asked := c.asked[sha(text)]; level > 0 && asked != 1 || level == 0 && asked > 0 && sha(text) != root {
				t.Error(what, "level", level, "asked", asked)
			}
			if n, right := tree.Read(s, level, at); !right || wantNode(n.Level, n.Items) != text {
				t.Error(what, "level", level, "node", at)
			}
			other := Pair{Key: item.Key, Val: told("", sha("x"), 1).Val}
			if !tree.Has(level, item) || tree.Has(level, other) || tree.Has(level+1, item) != (level+1 < len(rows) && slices.Contains(rows[level+1], item)) {
				t.Error(what, "level", level, "item", at)
			}
		}
	}
	if len(rows) == 0 && len(tree.Row(0)) != 0 || tree.Has(len(rows), Pair{}) {
		t.Error(what, tree.Row(0))
	}
}
