package prolly

import (
	"pleach/node"
	"pleach/seq"
	"pleach/sums"
)

// Build answers the root of the map of these pairs, and its tree's nodes,
// level by level from 0 on.
func Build(l []seq.Pair[string, string]) (string, []string, bool) {
	if !node.MayMap(l) {
		return "", nil, false
	}
	if len(l) == 0 {
		return sums.Print(node.Empty), []string{node.Empty}, true
	}
	var nodes []string
	items := l
	for level := 0; ; level++ {
		made, above, _ := node.Row(level, items, false)
		nodes = append(nodes, made...)
		if len(made) == 1 {
			root, _, _ := node.Told(above[0])
			return root, nodes, true
		}
		// At least two items stand in each node but the last one: each level
		// has fewer nodes than the one below it.
		items = above
	}
}
