package prolly

import (
	"iter"
	"strings"

	"pleach/api"
	"pleach/node"
	"pleach/seq"
)

// Parse answers level and items of a right node's bytes.
func Parse(text string) (int, []seq.Pair[string, string], bool) {
	n, right := node.Read(text)
	return n.Level, n.Items, right
}

// Find answers the value at a key, and whether there is one.
func Find(s Source, root, key string) (string, bool, api.Errno) {
	n, right := node.Get(s, root)
	for right && n.Level > 0 {
		items := n.From(key)
		if len(items) == 0 {
			return "", false, api.OK
		}
		n, right = node.Below(s, n.Level, items[0])
	}
	if !right {
		return "", false, api.ErrLost
	}
	if items := n.From(key); len(items) > 0 && items[0].Key == key {
		return items[0].Val, true, api.OK
	}
	return "", false, api.OK
}

// Count answers how many pairs the map has, as its root's node alone tells.
func Count(s Source, root string) (int, api.Errno) {
	n, right := node.Get(s, root)
	if !right {
		return 0, api.ErrLost
	}
	return n.Count(), api.OK
}

// All answers a run through all pairs, up to the first node that isn't found,
// right, and as it must stand.
func All(s Source, root string) iter.Seq2[string, string] {
	return pairsOf(leaves(s, root, ""))
}

// Range answers a run through the pairs whose keys are from from on and below
// to.
func Range(s Source, root, from, to string) iter.Seq2[string, string] {
	// It is left off at the first key that isn't below to: that is in the last
	// node with such keys, or in the one behind it.
	return seq.Within(pairsOf(leaves(s, root, from)), from, to)
}

// pairsOf answers a run through the pairs of nodes of level 0.
func pairsOf(leaves iter.Seq[node.Node]) iter.Seq2[string, string] {
	return func(yield func(string, string) bool) {
		for leaf := range leaves {
			for _, p := range leaf.Items {
				if !yield(p.Key, p.Val) {
					return
				}
			}
		}
	}
}

// leaves answers a run through the nodes of level 0 whose last keys are not
// below from; a root of level 0 is told in any case.
func leaves(s Source, root, from string) iter.Seq[node.Node] {
	return func(yield func(node.Node) bool) {
		if n, right := node.Get(s, root); right {
			walk(s, n, from, yield)
		}
	}
}

// walk tells those of these nodes that are below n, or n itself, and answers
// whether the run goes on behind n.
func walk(s Source, n node.Node, from string, yield func(node.Node) bool) bool {
	if n.Level == 0 {
		return yield(n)
	}
	for _, item := range n.From(from) {
		below, right := node.Below(s, n.Level, item)
		if !right || !walk(s, below, from, yield) {
			return false
		}
	}
	return true
}

// Nodes answers the fingerprints of all nodes: each once, ahead of those below
// it, these from the left.
func Nodes(s Source, root string) ([]string, api.Errno) {
	n, right := node.Get(s, root)
	if !right {
		return nil, api.ErrLost
	}
	c := census{source: s, known: make(map[string]struct{})}
	if !c.take(n, root) {
		return nil, api.ErrLost
	}
	return c.prints, api.OK
}

// census: the fingerprints of the nodes that were come by.
type census struct {
	source Source
	known  map[string]struct{}
	prints []string
}

// take takes a node that isn't known and all below it, and answers whether
// each of these is found, right, and as it must stand.
func (c *census) take(n node.Node, print string) bool {
	// A copy: a fingerprint that is a piece of a node would keep all of it.
	print = strings.Clone(print)
	c.known[print] = struct{}{}
	c.prints = append(c.prints, print)
	if n.Level == 0 {
		return true
	}
	for _, item := range n.Items {
		below, right := node.Below(c.source, n.Level, item)
		if !right {
			return false
		}
		// In a tree that Build didn't make a node may stand at many places: to
		// go on below it each time might take for ever.
		child, _, _ := node.Told(item)
		if _, known := c.known[child]; !known && !c.take(below, child) {
			return false
		}
	}
	return true
}
