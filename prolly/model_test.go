package prolly

import (
	"bytes"
	"crypto/sha256"
	"encoding/binary"
	"fmt"
	"math/rand/v2"
	"slices"
	"strings"
	"testing"

	"pleach/seq"
)

// What stands here is a tree in the chapter's words, made by other means than
// the program's: each node knows what an item tells of it.

type pair = seq.Pair[string, string]

// tree: a node of a model's tree with all below it. If there are bytes, they
// stand where the node must stand, whatever its item tells.
type tree struct {
	level int
	pairs []pair
	kids  []*tree
	bytes *string
}

func sha(text string) string {
	sum := sha256.Sum256([]byte(text))
	return string(sum[:])
}

// wantItem is the item of a key and a value.
func wantItem(key, val string) string {
	var b bytes.Buffer
	for _, text := range []string{key, val} {
		binary.Write(&b, binary.BigEndian, uint16(len(text)))
		b.WriteString(text)
	}
	return b.String()
}

// wantNode is a node's bytes: of any numbers and items, right or not.
func wantNode(level, count byte, items ...string) string {
	return string([]byte{'P', level, count}) + strings.Join(items, "")
}

// toldOf is the value of an item above level 0.
func toldOf(print string, count uint64) string {
	return print + string(binary.BigEndian.AppendUint64(nil, count))
}

// wantParts cuts a list in the words of layer 7.
func wantParts(items []string) [][]int {
	var parts [][]int
	var part []int
	for i, item := range items {
		part = append(part, i)
		if len(part) == 16 || len(part) >= 2 && sha(item)[0] < 64 {
			parts, part = append(parts, part), nil
		}
	}
	if part != nil {
		parts = append(parts, part)
	}
	return parts
}

// grown is the tree of a map.
func grown(l []pair) *tree {
	if len(l) == 0 {
		return &tree{}
	}
	var items []string
	for _, p := range l {
		items = append(items, wantItem(p.Key, p.Val))
	}
	var row []*tree
	for _, part := range wantParts(items) {
		row = append(row, &tree{pairs: l[part[0] : part[len(part)-1]+1]})
	}
	for level := 1; len(row) > 1; level++ {
		items = nil
		for _, kid := range row {
			items = append(items, kid.item())
		}
		var above []*tree
		for _, part := range wantParts(items) {
			above = append(above, &tree{level: level, kids: row[part[0] : part[len(part)-1]+1]})
		}
		row = above
	}
	return row[0]
}

func (t *tree) last() string {
	if t.level > 0 {
		return t.kids[len(t.kids)-1].last()
	}
	return t.pairs[len(t.pairs)-1].Key
}

func (t *tree) count() uint64 {
	sum := uint64(len(t.pairs))
	for _, kid := range t.kids {
		sum += kid.count()
	}
	return sum
}

func (t *tree) item() string {
	return wantItem(t.last(), toldOf(t.print(), t.count()))
}

func (t *tree) text() string {
	if t.bytes != nil {
		return *t.bytes
	}
	var items []string
	for _, p := range t.pairs {
		items = append(items, wantItem(p.Key, p.Val))
	}
	for _, kid := range t.kids {
		items = append(items, kid.item())
	}
	return wantNode(byte(t.level), byte(len(items)), items...)
}

func (t *tree) print() string { return sha(t.text()) }

// all answers all nodes: each ahead of those below it, these from the left.
func (t *tree) all() []*tree {
	nodes := []*tree{t}
	for _, kid := range t.kids {
		nodes = append(nodes, kid.all()...)
	}
	return nodes
}

// leaves answers the nodes of level 0, and the ways to them.
func (t *tree) leaves() (leaves []*tree, ways [][]*tree) {
	if t.level == 0 {
		return []*tree{t}, [][]*tree{{t}}
	}
	for _, kid := range t.kids {
		below, its := kid.leaves()
		leaves = append(leaves, below...)
		for _, way := range its {
			ways = append(ways, append([]*tree{t}, way...))
		}
	}
	return leaves, ways
}

// way answers the nodes on the way to a key.
func (t *tree) way(key string) []*tree {
	for _, kid := range t.kids {
		if kid.last() >= key {
			return append([]*tree{t}, kid.way(key)...)
		}
	}
	return []*tree{t}
}

// has tells whether a node has keys from from on, below to, at or below it.
func (t *tree) has(from, to string) bool {
	for _, p := range t.pairs {
		if p.Key >= from && p.Key < to {
			return true
		}
	}
	return slices.ContainsFunc(t.kids, func(kid *tree) bool { return kid.has(from, to) })
}

// source is one of all nodes, as their bytes are.
func (t *tree) source() shelf {
	s := shelf{}
	for _, n := range t.all() {
		s[n.print()] = n.text()
	}
	return s
}

// shelf is a source that has been written by other means than Heap.
type shelf map[string]string

func (s shelf) Get(print string) (string, bool) {
	text, ok := s[print]
	return text, ok
}

// without is a shelf that lacks one text.
func (s shelf) without(print string) shelf {
	rest := shelf{}
	for p, text := range s {
		if p != print {
			rest[p] = text
		}
	}
	return rest
}

// watch is a source that writes down what it is asked for.
type watch struct {
	Source
	asked []string
}

func (w *watch) Get(print string) (string, bool) {
	w.asked = append(w.asked, print)
	return w.Source.Get(print)
}

// prints answers the fingerprints of nodes.
func prints(nodes []*tree) []string {
	var l []string
	for _, n := range nodes {
		l = append(l, n.print())
	}
	return l
}

// mapOf is a map of n keys between which there is room for others.
func mapOf(n int) []pair {
	var l []pair
	for i := range n {
		l = append(l, pair{Key: fmt.Sprintf("k%05d", 2*i), Val: fmt.Sprint("v", i*i)})
	}
	return l
}

// randomMap has n keys or less, of few letters or of any bytes, short and
// longer ones; some begin others.
func randomMap(random *rand.Rand, n int) []pair {
	vals := map[string]string{}
	letters := 1 + random.IntN(256)
	for range n {
		vals[randomText(random, 12, letters)] = randomText(random, 40, 256)
	}
	var l []pair
	for key, val := range vals {
		l = append(l, pair{Key: key, Val: val})
	}
	slices.SortFunc(l, func(a, b pair) int { return strings.Compare(a.Key, b.Key) })
	return l
}

func randomText(random *rand.Rand, most, letters int) string {
	b := make([]byte, random.IntN(most+1))
	for i := range b {
		b[i] = byte(random.IntN(letters))
	}
	return string(b)
}

// bounds answers texts at all keys of a list, between them, below and above.
func bounds(l []pair) []string {
	texts := []string{"", "\x00", "a", "z", "\xff\xff"}
	for _, p := range l {
		texts = append(texts, p.Key, p.Key+"\x00", p.Key+"x", p.Key[:len(p.Key)/2])
		if p.Key != "" {
			last := len(p.Key) - 1
			texts = append(texts, p.Key[:last], p.Key[:last]+string([]byte{p.Key[last] - 1})+"~")
		}
	}
	slices.Sort(texts)
	return slices.Compact(texts)
}

// checkSame holds a list of pairs against another one.
func checkSame(t *testing.T, what string, got, want []pair) {
	t.Helper()
	if !slices.Equal(got, want) {
		t.Errorf("%s: %d pairs %.200q, want %d %.200q", what, len(got), got, len(want), want)
	}
}

// The model itself: the chapter's example, and a node that was written out by
// hand.
func TestModel(t *testing.T) {
	if text := grown(nil).text(); text != "P\x00\x00" {
		t.Errorf("%q", text)
	}
	if text := grown([]pair{{Key: "ab", Val: ""}, {Key: "b", Val: "xyz"}}).text(); text != "P\x00\x02\x00\x02ab\x00\x00\x00\x01b\x00\x03xyz" {
		t.Errorf("%q", text)
	}
	if item := (&tree{pairs: []pair{{Key: "k"}}}).item(); item != "\x00\x01k\x00\x28"+sha("P\x00\x01\x00\x01k\x00\x00")+"\x00\x00\x00\x00\x00\x00\x00\x01" {
		t.Errorf("%q", item)
	}
}
