package prolly

import (
	"strings"

	"pleach/api"
	"pleach/seq"
	"pleach/sums"
)

const (
	nodeSign = 'P'
	headLen  = 3            // bytes: the sign, the level, how many items
	printLen = 32           // bytes of a fingerprint
	toldLen  = printLen + 8 // bytes of the value above level 0: a fingerprint and a count
	maxCount = 1 << 40      // keys of a map
)

// node: what the bytes of a right node tell.
type node struct {
	level int
	items []pair
}

// Parse answers level and items of a right node's bytes.
func Parse(text string) (int, []seq.Pair[string, string], bool) {
	n, right := readNode(text)
	return n.level, n.items, right
}

// readNode answers the node whose bytes these are, and whether it is right.
func readNode(text string) (node, bool) {
	if len(text) < headLen || text[0] != nodeSign {
		return node{}, false
	}
	level, count := int(text[1]), int(text[2])
	if level > api.MaxLevel || count > api.MaxItems {
		return node{}, false
	}
	items, whole := readItems(text[headLen:], count)
	n := node{level: level, items: items}
	if !whole || !n.right() {
		return node{}, false
	}
	return n, true
}

// readItems answers so many items of which the text is the bytes, and whether
// it is just these.
func readItems(text string, count int) ([]pair, bool) {
	items := make([]pair, count)
	for i := range items {
		var key, val string
		var whole bool
		key, text, _ = readText(text)
		val, text, whole = readText(text)
		if !whole {
			return nil, false
		}
		items[i] = pair{Key: key, Val: val}
	}
	return items, text == ""
}

// readText answers the text that stands first, its length in two bytes ahead
// of it, and what is behind it. Of a text that is cut off nothing is left, so
// that what is read behind it is so too.
func readText(from string) (text, rest string, whole bool) {
	if len(from) < 2 {
		return "", "", false
	}
	n := int(from[0])<<8 | int(from[1])
	from = from[2:]
	if n > len(from) {
		return "", "", false
	}
	return from[:n], from[n:], true
}

// right tells whether the items are such as a node of that level has.
func (n node) right() bool {
	if !mayMap(n.items) {
		return false
	}
	if n.level == 0 {
		return true
	}
	for _, item := range n.items {
		if _, _, right := told(item); !right {
			return false
		}
	}
	return len(n.items) > 0
}

// mayMap tells whether these are, in this order, pairs of a map.
func mayMap(l []pair) bool {
	for i, p := range l {
		if len(p.Key) > api.MaxKey || len(p.Val) > api.MaxValue {
			return false
		}
		if i > 0 && l[i-1].Key >= p.Key {
			return false
		}
	}
	return true
}

// told answers what an item above level 0 tells of the node below it: its
// fingerprint and its count; and whether it is such an item.
func told(item pair) (print string, count int, right bool) {
	if len(item.Val) != toldLen {
		return "", 0, false
	}
	// Without a sign: the greatest counts must not be taken for small ones.
	var n uint64
	for i := printLen; i < toldLen; i++ {
		n = n<<8 | uint64(item.Val[i])
	}
	if n < 1 || n > maxCount {
		return "", 0, false
	}
	return item.Val[:printLen], int(n), true
}

// count answers how many pairs there are in a right node and below it.
func (n node) count() int {
	if n.level == 0 {
		return len(n.items)
	}
	sum := 0
	for _, item := range n.items {
		_, count, _ := told(item)
		sum += count
	}
	return sum
}

// standsBelow tells whether a right node is as it must be below an item of a
// node of that level.
func (n node) standsBelow(level int, item pair) bool {
	if n.level != level-1 || len(n.items) == 0 {
		return false
	}
	_, count, _ := told(item)
	return n.items[len(n.items)-1].Key == item.Key && n.count() == count
}

// from answers the items whose keys are not below the key.
func (n node) from(key string) []pair {
	for i, item := range n.items {
		if item.Key >= key {
			return n.items[i:]
		}
	}
	return nil
}

// nodeBytes answers the bytes of a node whose items have these bytes.
func nodeBytes(level int, items []string) string {
	head := string([]byte{nodeSign, byte(level), byte(len(items))})
	return head + strings.Join(items, "")
}

// itemBytes answers the bytes of the item of a key and a value.
func itemBytes(p pair) string {
	b := make([]byte, 0, 2+len(p.Key)+2+len(p.Val))
	b = appendText(b, p.Key)
	b = appendText(b, p.Val)
	return string(b)
}

func appendText(b []byte, text string) []byte {
	b = append(b, byte(len(text)>>8), byte(len(text)))
	return append(b, text...)
}

// itemOf answers the item of a node, which has an item at least and these
// bytes.
func itemOf(n node, text string) pair {
	val := make([]byte, 0, toldLen)
	val = append(val, sums.Print(text)...)
	count := uint64(n.count())
	for shift := 56; shift >= 0; shift -= 8 {
		val = append(val, byte(count>>shift))
	}
	return pair{Key: n.items[len(n.items)-1].Key, Val: string(val)}
}
