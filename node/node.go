// Package node: nodes of maps' trees as bytes, and which of them stands where;
// see shared/doc/08-prolly.md. The layers that go through trees, and those
// that make them, are built on it.
package node

import (
	"pleach/api"
	"pleach/seq"
)

const (
	sign     = 'P'
	headLen  = 3            // bytes: the sign, the level, how many items
	printLen = 32           // bytes of a fingerprint
	toldLen  = printLen + 8 // bytes of the value above level 0: a fingerprint and a count
	maxCount = 1 << 40      // keys of a map
)

// Pair: a key and its value, or, above level 0, an item of a node.
type Pair = seq.Pair[string, string]

// Node: what the bytes of a right node tell.
type Node struct {
	Level int
	Items []Pair
}

// Source finds texts by fingerprints.
type Source interface {
	Get(print string) (string, bool)
}

// Get answers the node of that fingerprint, if it is found and right. No
// source is one that finds nothing.
func Get(s Source, print string) (Node, bool) {
	if s == nil {
		return Node{}, false
	}
	text, found := s.Get(print)
	if !found {
		return Node{}, false
	}
	return Read(text)
}

// Below answers the node below an item of a right node of that level, if it is
// found, right, and as it must stand there.
func Below(s Source, level int, item Pair) (Node, bool) {
	print, _, _ := Told(item)
	n, right := Get(s, print)
	if !right || !n.standsBelow(level, item) {
		return Node{}, false
	}
	return n, true
}

// MayMap tells whether these are, in this order, pairs of a map.
func MayMap(l []Pair) bool {
	for i, p := range l {
		if len(p.Key) > api.MaxKey || len(p.Val) > api.MaxValue {
			return false
		}
		if i > 0 && l[i-1].Key >= p.Key {
			return false
		}
	}
	return true
}

// Told answers what an item above level 0 tells of the node below it: its
// fingerprint and its count; and whether it is such an item.
func Told(item Pair) (print string, count int, right bool) {
	if len(item.Val) != toldLen {
		return "", 0, false
	}
	// Without a sign: the greatest counts must not be taken for small ones.
	var n uint64
	for i := printLen; i < toldLen; i++ {
		n = n<<8 | uint64(item.Val[i])
	}
	if n < 1 || n > maxCount {
		return "", 0, false
	}
	return item.Val[:printLen], int(n), true
}

// Count answers how many pairs there are in a right node and below it.
func (n Node) Count() int {
	if n.Level == 0 {
		return len(n.Items)
	}
	sum := 0
	for _, item := range n.Items {
		_, count, _ := Told(item)
		sum += count
	}
	return sum
}

// From answers the items whose keys are not below the key.
func (n Node) From(key string) []Pair {
	for i, item := range n.Items {
		if item.Key >= key {
			return n.Items[i:]
		}
	}
	return nil
}

// right tells whether the items are such as a node of that level has.
func (n Node) right() bool {
	if !MayMap(n.Items) {
		return false
	}
	if n.Level == 0 {
		return true
	}
	for _, item := range n.Items {
		if _, _, right := Told(item); !right {
			return false
		}
	}
	return len(n.Items) > 0
}

// standsBelow tells whether a right node is as it must be below an item of a
// node of that level.
func (n Node) standsBelow(level int, item Pair) bool {
	if n.Level != level-1 || len(n.Items) == 0 {
		return false
	}
	_, count, _ := Told(item)
	return n.Items[len(n.Items)-1].Key == item.Key && n.Count() == count
}
