package weave

import (
	"slices"
	"strings"

	"pleach/node"
	"pleach/prolly"
)

// tree: a tree that was there, as far as it is known without its nodes of
// level 0, but for a root of that level.
type tree struct {
	root  string        // its fingerprint
	items [][]node.Pair // by level up to the root's: what stands in its nodes
}

// readTree answers the tree of that root, and whether the root, and each node
// above level 0, is found, right, and as it must stand.
func readTree(s prolly.Source, root string) (tree, bool) {
	top, right := node.Get(s, root)
	if !right {
		return tree{}, false
	}
	t := tree{root: root, items: make([][]node.Pair, top.Level+1)}
	t.items[top.Level] = top.Items
	for level := top.Level - 1; level > 0; level-- {
		for at := range t.nodes(level) {
			n, right := t.read(s, level, at)
			if !right {
				return tree{}, false
			}
			t.items[level] = append(t.items[level], n.Items...)
		}
	}
	return t, true
}

// level answers the root's level.
func (t tree) level() int { return len(t.items) - 1 }

// nodes answers the items of the nodes of a level: those of the level above.
func (t tree) nodes(level int) []node.Pair {
	if level >= t.level() {
		return nil
	}
	return t.items[level+1]
}

// read answers one of the nodes of a level, if it is found, right, and as it
// must stand.
func (t tree) read(s prolly.Source, level, at int) (node.Node, bool) {
	row := t.nodes(level)
	n, right := node.Below(s, level+1, row[at])
	// Keys rise from node to node: none stands at two places, and going through
	// a tree takes no longer than it has nodes.
	if right && at > 0 && n.Items[0].Key <= row[at-1].Key {
		return node.Node{}, false
	}
	return n, right
}

// has tells whether a node of that level, of which this is the item, is one of
// the tree.
func (t tree) has(level int, item node.Pair) bool {
	if level == t.level() {
		print, _, _ := node.Told(item)
		return print == t.root
	}
	row := t.nodes(level)
	at, there := slices.BinarySearchFunc(row, item.Key, func(p node.Pair, key string) int {
		return strings.Compare(p.Key, key)
	})
	return there && row[at].Val == item.Val
}
