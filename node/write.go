package node

import (
	"strings"

	"pleach/split"
	"pleach/sums"
)

// Empty: the bytes of the empty map's node.
const Empty = "P\x00\x00"

// Row answers the nodes of a level that has these items, from the left, and
// the items of these nodes. If more items follow, the part that doesn't end
// with these is left off, and its items are answered.
func Row(level int, items []Pair, more bool) (texts []string, above, left []Pair) {
	its := itemTexts(items)
	listed := its
	if more {
		// What stands behind a part plays no part for it: any item does.
		listed = append(listed, "")
	}
	begin := 0
	for _, size := range split.Cut(listed) {
		end := begin + size
		if end > len(items) {
			break
		}
		text := nodeText(level, its[begin:end])
		texts = append(texts, text)
		above = append(above, Node{Level: level, Items: items[begin:end]}.item(sums.Print(text)))
		begin = end
	}
	return texts, above, items[begin:]
}

// nodeText answers the bytes of a node whose items have these bytes.
func nodeText(level int, items []string) string {
	head := string([]byte{sign, byte(level), byte(len(items))})
	return head + strings.Join(items, "")
}

func itemTexts(items []Pair) []string {
	texts := make([]string, len(items))
	for i, item := range items {
		texts[i] = itemText(item)
	}
	return texts
}

func itemText(p Pair) string {
	b := make([]byte, 0, 2+len(p.Key)+2+len(p.Val))
	b = appendText(b, p.Key)
	b = appendText(b, p.Val)
	return string(b)
}

func appendText(b []byte, text string) []byte {
	b = append(b, byte(len(text)>>8), byte(len(text)))
	return append(b, text...)
}

// item answers the item of a node, which has an item at least, and this
// fingerprint.
func (n Node) item(print string) Pair {
	val := make([]byte, 0, toldLen)
	val = append(val, print...)
	count := uint64(n.Count())
	for shift := 56; shift >= 0; shift -= 8 {
		val = append(val, byte(count>>shift))
	}
	return Pair{Key: n.Items[len(n.Items)-1].Key, Val: string(val)}
}
