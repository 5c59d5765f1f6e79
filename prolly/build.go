package prolly

import (
	"pleach/seq"
	"pleach/split"
	"pleach/sums"
)

// Build answers the root of the map of these pairs, and its tree's nodes,
// level by level from 0 on.
func Build(l []seq.Pair[string, string]) (string, []string, bool) {
	if !mayMap(l) {
		return "", nil, false
	}
	if len(l) == 0 {
		empty := nodeBytes(0, nil)
		return sums.Print(empty), []string{empty}, true
	}
	var nodes []string
	items := l
	for level := 0; ; level++ {
		made, above := buildLevel(level, items)
		nodes = append(nodes, made...)
		if len(made) == 1 {
			root, _, _ := told(above[0])
			return root, nodes, true
		}
		// At least two items stand in each node but the last one: each level
		// has fewer nodes than the one below it.
		items = above
	}
}

// buildLevel answers the nodes of a level that has these items, and the items
// of these nodes.
func buildLevel(level int, items []pair) (nodes []string, above []pair) {
	texts := make([]string, len(items))
	for i, item := range items {
		texts[i] = itemBytes(item)
	}
	begin := 0
	for _, size := range split.Cut(texts) {
		end := begin + size
		text := nodeBytes(level, texts[begin:end])
		nodes = append(nodes, text)
		above = append(above, itemOf(node{level: level, items: items[begin:end]}, text))
		begin = end
	}
	return nodes, above
}
