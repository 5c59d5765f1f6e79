package prolly

import (
	"iter"
	"strings"

	"pleach/api"
	"pleach/seq"
)

// getNode answers the node of that fingerprint, if it is found and right.
func getNode(s Source, print string) (node, bool) {
	if s == nil {
		return node{}, false
	}
	text, found := s.Get(print)
	if !found {
		return node{}, false
	}
	return readNode(text)
}

// getBelow answers the node below an item of a node of that level, if it is
// found, right, and as it must stand there.
func getBelow(s Source, level int, item pair) (node, bool) {
	print, _, _ := told(item)
	n, right := getNode(s, print)
	return n, right && n.standsBelow(level, item)
}

// Find answers the value at a key, and whether there is one.
func Find(s Source, root, key string) (string, bool, api.Errno) {
	n, right := getNode(s, root)
	for right && n.level > 0 {
		items := n.from(key)
		if len(items) == 0 {
			return "", false, api.OK
		}
		n, right = getBelow(s, n.level, items[0])
	}
	if !right {
		return "", false, api.ErrLost
	}
	if items := n.from(key); len(items) > 0 && items[0].Key == key {
		return items[0].Val, true, api.OK
	}
	return "", false, api.OK
}

// Count answers how many pairs the map has, as its root's node alone tells.
func Count(s Source, root string) (int, api.Errno) {
	n, right := getNode(s, root)
	if !right {
		return 0, api.ErrLost
	}
	return n.count(), api.OK
}

// All answers a run through all pairs, up to the first node that isn't found,
// right, and as it must stand.
func All(s Source, root string) iter.Seq2[string, string] {
	return pairsOf(leaves(s, root, ""))
}

// Range answers a run through the pairs whose keys are from from on and below
// to.
func Range(s Source, root, from, to string) iter.Seq2[string, string] {
	// It is left off at the first key that isn't below to: that is in the last
	// node with such keys, or in the one behind it.
	return seq.Within(pairsOf(leaves(s, root, from)), from, to)
}

// pairsOf answers a run through the pairs of nodes of level 0.
func pairsOf(leaves iter.Seq[node]) iter.Seq2[string, string] {
	return func(yield func(string, string) bool) {
		for leaf := range leaves {
			for _, p := range leaf.items {
				if !yield(p.Key, p.Val) {
					return
				}
			}
		}
	}
}

// leaves answers a run through the nodes of level 0 whose last keys are not
// below from; a root of level 0 is told in any case.
func leaves(s Source, root, from string) iter.Seq[node] {
	return func(yield func(node) bool) {
		if n, right := getNode(s, root); right {
			walk(s, n, from, yield)
		}
	}
}

// walk tells those of these nodes that are below n, or n itself, and answers
// whether the run goes on behind n.
func walk(s Source, n node, from string, yield func(node) bool) bool {
	if n.level == 0 {
		return yield(n)
	}
	for _, item := range n.from(from) {
		below, right := getBelow(s, n.level, item)
		if !right || !walk(s, below, from, yield) {
			return false
		}
	}
	return true
}

// Nodes answers the fingerprints of all nodes: each once, ahead of those below
// it, these from the left.
func Nodes(s Source, root string) ([]string, api.Errno) {
	n, right := getNode(s, root)
	if !right {
		return nil, api.ErrLost
	}
	c := census{source: s, known: make(map[string]struct{})}
	if !c.take(n, root) {
		return nil, api.ErrLost
	}
	return c.prints, api.OK
}

// census: the fingerprints of the nodes that were come by.
type census struct {
	source Source
	known  map[string]struct{}
	prints []string
}

// take takes a node that isn't known and all below it, and answers whether
// each of these is found, right, and as it must stand.
func (c *census) take(n node, print string) bool {
	// A copy: a fingerprint that is a piece of a node would keep all of it.
	print = strings.Clone(print)
	c.known[print] = struct{}{}
	c.prints = append(c.prints, print)
	if n.level == 0 {
		return true
	}
	for _, item := range n.items {
		below, right := getBelow(c.source, n.level, item)
		if !right {
			return false
		}
		// In a tree that Build didn't make a node may stand at many places: to
		// go on below it each time might take for ever.
		child, _, _ := told(item)
		if _, known := c.known[child]; !known && !c.take(below, child) {
			return false
		}
	}
	return true
}
