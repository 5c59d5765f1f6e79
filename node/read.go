package node

import "pleach/api"

// Read answers the node whose bytes these are, and whether it is right.
func Read(text string) (Node, bool) {
	if len(text) < headLen || text[0] != sign {
		return Node{}, false
	}
	level, count := int(text[1]), int(text[2])
	if level > api.MaxLevel || count > api.MaxItems {
		return Node{}, false
	}
	items, whole := readItems(text[headLen:], count)
	n := Node{Level: level, Items: items}
	if !whole || !n.right() {
		return Node{}, false
	}
	return n, true
}

// readItems answers so many items of which the text is the bytes, and whether
// it is just these.
func readItems(text string, count int) ([]Pair, bool) {
	items := make([]Pair, count)
	for i := range items {
		var key, val string
		var whole bool
		key, text, _ = readText(text)
		val, text, whole = readText(text)
		if !whole {
			return nil, false
		}
		items[i] = Pair{Key: key, Val: val}
	}
	return items, text == ""
}

// readText answers the text that stands first, its length in two bytes ahead
// of it, and what is behind it. Of a text that is cut off nothing is left, so
// that what is read behind it is so too.
func readText(from string) (text, rest string, whole bool) {
	if len(from) < 2 {
		return "", "", false
	}
	n := int(from[0])<<8 | int(from[1])
	from = from[2:]
	if n > len(from) {
		return "", "", false
	}
	return from[:n], from[n:], true
}
