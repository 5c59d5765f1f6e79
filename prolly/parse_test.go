package prolly

import (
	"bytes"
	"encoding/binary"
	"fmt"
	"io"
	"math/rand/v2"
	"slices"
	"strings"
	"testing"
)

// wantParse reads a node in the chapter's words, by the library's means.
func wantParse(text string) (int, []pair, bool) {
	r := bytes.NewReader([]byte(text))
	var head [3]byte
	if _, err := io.ReadFull(r, head[:]); err != nil || head[0] != 'P' {
		return 0, nil, false
	}
	level, count := int(head[1]), int(head[2])
	var texts []string
	for range 2 * count {
		var length uint16
		if binary.Read(r, binary.BigEndian, &length) != nil {
			return 0, nil, false
		}
		part := make([]byte, length)
		if _, err := io.ReadFull(r, part); err != nil {
			return 0, nil, false
		}
		texts = append(texts, string(part))
	}
	var items []pair
	for i := 0; i < len(texts); i += 2 {
		items = append(items, pair{Key: texts[i], Val: texts[i+1]})
	}
	if r.Len() > 0 || level > 32 || count > 16 || level > 0 && count == 0 {
		return 0, nil, false
	}
	for i, item := range items {
		if i > 0 && items[i-1].Key >= item.Key || len(item.Key) > 2000 || len(item.Val) > 8000 {
			return 0, nil, false
		}
		if level > 0 && len(item.Val) != 40 {
			return 0, nil, false
		}
		if level > 0 {
			told := binary.BigEndian.Uint64([]byte(item.Val[32:]))
			if told < 1 || told > 1<<40 {
				return 0, nil, false
			}
		}
	}
	return level, items, true
}

// checkParse holds Parse against that, and tells whether the bytes are a right
// node's.
func checkParse(t *testing.T, what, text string) bool {
	t.Helper()
	level, items, ok := Parse(text)
	wantLevel, wantItems, want := wantParse(text)
	if ok != want || level != wantLevel || !slices.Equal(items, wantItems) {
		t.Errorf("%s: %d, %.200q, %t; want %d, %.200q, %t", what, level, items, ok, wantLevel, wantItems, want)
	}
	return ok
}

// someNodes are right nodes of several levels, with none, some, and as many
// items as there may be.
func someNodes() []string {
	print := sha("x")
	nodes := []string{
		"P\x00\x00",
		wantNode(0, 1, wantItem("", "")),
		wantNode(0, 2, wantItem("", "\x00"), wantItem("\x00", "")),
		wantNode(0, 3, wantItem("ab", "val"), wantItem("abc", ""), wantItem("b", "x")),
		wantNode(1, 1, wantItem("", toldOf(print, 1))),
		wantNode(1, 2, wantItem("a", toldOf(print, 16)), wantItem("b", toldOf(print, 1<<40))),
		wantNode(32, 2, wantItem("a", toldOf(print, 1<<39)), wantItem("ab", toldOf(print, 0x0102030405))),
	}
	var items, above []string
	for i := range 16 {
		key := string(rune('a' + i))
		items = append(items, wantItem(key, ""))
		above = append(above, wantItem(key, toldOf(print, uint64(i+1))))
	}
	return append(nodes, wantNode(0, 16, items...), wantNode(7, 16, above...))
}

// P8.1: Parse of the nodes that Build made.
func TestParseBuilt(t *testing.T) {
	random := rand.New(rand.NewPCG(8, 3))
	for range 30 {
		l := randomMap(random, 150)
		_, nodes, _ := Build(l)
		var pairs []pair
		for i, text := range nodes {
			if !checkParse(t, fmt.Sprint("node ", i), text) {
				t.Error("not right: ", i)
			}
			if level, items, _ := Parse(text); level == 0 {
				pairs = append(pairs, items...)
			}
		}
		checkSame(t, "level 0", pairs, l)
	}
}

// P8.1: Parse of right nodes, of all that they are cut off to, of what is
// longer, and of each with each byte turned into each other one, put in, or
// taken out.
func TestParseTurned(t *testing.T) {
	for i, text := range someNodes() {
		if !checkParse(t, fmt.Sprint("node ", i), text) {
			t.Errorf("node %d isn't right", i)
		}
		for end := range len(text) {
			if checkParse(t, fmt.Sprint("node ", i, " up to ", end), text[:end]) {
				t.Errorf("node %d is right, cut off at %d", i, end)
			}
		}
		for at := range len(text) {
			turned := []byte(text)
			for value := range 256 {
				turned[at] = byte(value)
				checkParse(t, fmt.Sprint("node ", i, ", byte ", at, " turned to ", value), string(turned))
			}
			checkParse(t, fmt.Sprint("node ", i, " without byte ", at), text[:at]+text[at+1:])
			for _, more := range []string{"\x00", "\x01", "P", "\x00\x00\x00\x00"} {
				checkParse(t, fmt.Sprintf("node %d, %q put in at %d", i, more, at), text[:at]+more+text[at:])
			}
		}
		for _, more := range []string{"\x00", "P", "\x00\x00\x00\x00", text} {
			if checkParse(t, fmt.Sprint("node ", i, " and more"), text+more) {
				t.Errorf("node %d is right, and more behind it", i)
			}
		}
	}
}

// P8.1: Parse at the edges of what a right node may have.
func TestParseEdges(t *testing.T) {
	print := sha("x")
	one := wantItem("a", toldOf(print, 1))
	told := func(count uint64) string { return wantNode(1, 1, wantItem("a", toldOf(print, count))) }
	var many []string
	for i := range 17 {
		many = append(many, wantItem(fmt.Sprintf("%02d", i), ""))
	}
	cases := []struct {
		what, text string
		right      bool
	}{
		{"nothing", "", false},
		{"a sign", "P", false},
		{"a level", "P\x00", false},
		{"another sign", "p\x00\x00", false},
		{"another sign", "Q\x00\x00", false},
		{"level 0 without items", "P\x00\x00", true},
		{"level 1 without items", "P\x01\x00", false},
		{"level 32 without items", "P\x20\x00", false},
		{"level 32", wantNode(32, 1, one), true},
		{"level 33", wantNode(33, 1, one), false},
		{"level 255", wantNode(255, 1, one), false},
		{"level 33 without items", wantNode(33, 0), false},
		{"16 items", wantNode(0, 16, many[:16]...), true},
		{"17 items", wantNode(0, 17, many...), false},
		{"16 items that are 15", wantNode(0, 16, many[:15]...), false},
		{"15 items that are 16", wantNode(0, 15, many[:16]...), false},
		{"no items that are one", wantNode(0, 0, many[0]), false},
		{"a count of 0", told(0), false},
		{"a count of 1", told(1), true},
		{"a count of 2^40", told(1 << 40), true},
		{"a count of 2^40 + 1", told(1<<40 + 1), false},
		{"a count of 2^41", told(1 << 41), false},
		{"a count of 2^63", told(1 << 63), false},
		{"a count of 2^63 + 1", told(1<<63 + 1), false},
		{"a count of 2^64 - 1", told(1<<64 - 1), false},
		{"a count of 0 behind a right one", wantNode(1, 2, one, wantItem("b", toldOf(print, 0))), false},
		{"16 counts of 2^40", wantNode(1, 2, wantItem("a", toldOf(print, 1<<40)), wantItem("b", toldOf(print, 1<<40))), true},
		{"39 bytes", wantNode(1, 1, wantItem("a", toldOf(print, 1)[:39])), false},
		{"39 bytes, the first one gone", wantNode(1, 1, wantItem("a", toldOf(print, 1)[1:])), false},
		{"41 bytes", wantNode(1, 1, wantItem("a", "\x00"+toldOf(print, 1))), false},
		{"41 bytes, the last one more", wantNode(1, 1, wantItem("a", toldOf(print, 1)+"\x00")), false},
		{"41 bytes of the last of two", wantNode(1, 2, one, wantItem("b", toldOf(print, 1)+"\x00")), false},
		{"32 bytes", wantNode(1, 1, wantItem("a", print)), false},
		{"no bytes", wantNode(1, 1, wantItem("a", "")), false},
		{"39 bytes at level 0", wantNode(0, 1, wantItem("a", toldOf(print, 1)[:39])), true},
		{"a count of 0 at level 0", wantNode(0, 1, wantItem("a", toldOf(print, 0))), true},
		{"keys that fall", wantNode(0, 2, wantItem("b", ""), wantItem("a", "")), false},
		{"one key twice", wantNode(0, 2, wantItem("a", "1"), wantItem("a", "2")), false},
		{"the empty key twice", wantNode(0, 2, wantItem("", ""), wantItem("", "")), false},
		{"the last key falls", wantNode(0, 3, wantItem("a", ""), wantItem("b", ""), wantItem("a", "")), false},
		{"keys that fall above level 0", wantNode(2, 2, wantItem("b", toldOf(print, 1)), one), false},
		{"one key twice above level 0", wantNode(2, 2, one, one), false},
		{"a key of 2000", wantNode(0, 1, wantItem(strings.Repeat("k", 2000), "")), true},
		{"a key of 2001", wantNode(0, 1, wantItem(strings.Repeat("k", 2001), "")), false},
		{"a key of 2001 above level 0", wantNode(1, 1, wantItem(strings.Repeat("k", 2001), toldOf(print, 1))), false},
		{"a value of 8000", wantNode(0, 1, wantItem("", strings.Repeat("v", 8000))), true},
		{"a value of 8001", wantNode(0, 1, wantItem("", strings.Repeat("v", 8001))), false},
		{"a key of 65535", wantNode(0, 1, wantItem(strings.Repeat("k", 65535), "")), false},
	}
	for _, c := range cases {
		if got := checkParse(t, c.what, c.text); got != c.right {
			t.Errorf("%s: %t", c.what, got)
		}
	}
}

// P0: Parse of any bytes, many of which look like nodes.
func TestParseAnyBytes(t *testing.T) {
	random := rand.New(rand.NewPCG(8, 4))
	right := 0
	for i := range 200000 {
		text := "P" + randomText(random, 24, 1+random.IntN(4))
		if checkParse(t, fmt.Sprintf("%d: %q", i, text), text) {
			right++
		}
	}
	if right < 1000 {
		t.Error(right)
	}
	checkParse(t, "a long text", "P\x00\x10"+strings.Repeat("\xff", 1<<21))
}

// R4: what Parse answers is the caller's own.
func TestParseOwnMemory(t *testing.T) {
	text := someNodes()[3]
	_, items, _ := Parse(text)
	items[0] = pair{Key: "changed"}
	_ = append(items[:1], pair{Key: "changed"})
	if !checkParse(t, "again", text) {
		t.Error("not right")
	}
}
