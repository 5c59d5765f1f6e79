package node

import (
	"slices"
	"strings"
)

// Tree: a map's tree, as far as it is known without its nodes of level 0, but
// for a root of that level.
type Tree struct {
	Root string   // its fingerprint
	Top  Node     // the root's node
	rows [][]Pair // by level, up to the root's: the items of its nodes
}

// ReadTree answers the tree of that root, and whether the root, and each node
// above level 0, is found, right, and as it must stand.
func ReadTree(s Source, root string) (Tree, bool) {
	top, right := Get(s, root)
	if !right {
		return Tree{}, false
	}
	t := Tree{Root: root, Top: top, rows: make([][]Pair, top.Level+1)}
	if len(top.Items) > 0 {
		t.rows[top.Level] = []Pair{top.item(root)}
	}
	for level := top.Level; level > 0; level-- {
		for at := range t.rows[level] {
			n, right := t.Read(s, level, at)
			if !right {
				return Tree{}, false
			}
			t.rows[level-1] = append(t.rows[level-1], n.Items...)
		}
	}
	return t, true
}

// Row answers the items of the nodes of a level, from the left. The empty
// map's node has none.
func (t Tree) Row(level int) []Pair {
	if level >= len(t.rows) {
		return nil
	}
	return t.rows[level]
}

// Read answers the node of one of a row's items, if it is found, right, and as
// it must stand.
func (t Tree) Read(s Source, level, at int) (Node, bool) {
	if level == t.Top.Level {
		return t.Top, true
	}
	row := t.rows[level]
	n, right := Below(s, level+1, row[at])
	// Keys rise from node to node: none stands at two places, and going through
	// a tree takes no longer than it has nodes.
	if right && at > 0 && n.Items[0].Key <= row[at-1].Key {
		return Node{}, false
	}
	return n, right
}

// Has tells whether a node of that level, of which this is the item, is one of
// the tree.
func (t Tree) Has(level int, item Pair) bool {
	row := t.Row(level)
	at, there := slices.BinarySearchFunc(row, item.Key, func(p Pair, key string) int {
		return strings.Compare(p.Key, key)
	})
	return there && row[at].Val == item.Val
}
