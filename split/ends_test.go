package split

import (
	"crypto/sha256"
	"strconv"
	"strings"
	"testing"
)

// firstByte answers the first byte of an item's fingerprint, by the library's
// means.
func firstByte(item string) byte {
	return sha256.Sum256([]byte(item))[0]
}

// ends tells what Ends is to answer.
func ends(item string) bool {
	return firstByte(item) < 64
}

func checkEnds(t *testing.T, item string) {
	t.Helper()
	if got := Ends(item); got != ends(item) {
		t.Errorf("Ends(%.40q) of %d bytes: %v, its fingerprint's first byte is %d", item, len(item), got, firstByte(item))
	}
}

// P7.1: items written out, the empty one, and those whose fingerprint's first
// byte is 63 and 64 among them.
func TestEndsKnown(t *testing.T) {
	known := []struct {
		item  string
		first byte
		ends  bool
	}{
		{"", 227, false},
		{"a", 202, false},
		{"b", 62, true},
		{"x", 45, true},
		{"\x00", 110, false},
		{"abc", 186, false},
		{"item231", 0, true},
		{"item298", 1, true},
		{"item261", 62, true},
		{"item117", 63, true},
		{"item89", 64, false},
		{"item274", 65, false},
		{"item740", 127, false},
		{"item122", 128, false},
		{"item225", 255, false},
	}
	for _, k := range known {
		if firstByte(k.item) != k.first {
			t.Fatalf("%q: its fingerprint's first byte is %d, not %d", k.item, firstByte(k.item), k.first)
		}
		if got := Ends(k.item); got != k.ends {
			t.Errorf("Ends(%q): %v, its fingerprint's first byte is %d", k.item, got, k.first)
		}
	}
}

// P7.1: many items of each first byte that a fingerprint may have.
func TestEndsEachByte(t *testing.T) {
	const least = 10
	var seen [256]int
	missing := 256
	for i := 0; missing > 0; i++ {
		item := "item" + strconv.Itoa(i)
		checkEnds(t, item)
		seen[firstByte(item)]++
		if seen[firstByte(item)] == least {
			missing--
		}
	}
}

// P7.1: any bytes are an item: each byte alone, pairs of them, and long ones
// at the lengths at which fingerprints and keys and values have their edges.
func TestEndsAnyBytes(t *testing.T) {
	for b := range 256 {
		checkEnds(t, string([]byte{byte(b)}))
		for c := range 256 {
			checkEnds(t, string([]byte{byte(b), byte(c)}))
		}
	}
	for _, n := range []int{55, 56, 63, 64, 65, 119, 120, 1000, 2000, 8000, 10004, 1 << 20, 1<<20 + 1} {
		for _, fill := range []string{"\x00", "\xff", "a", "\x80"} {
			checkEnds(t, strings.Repeat(fill, n))
		}
	}
}

// P7.1, R7: what was asked ahead plays no part.
func TestEndsAgain(t *testing.T) {
	for range 3 {
		if Ends("item89") || !Ends("item117") || Ends("") {
			t.Fatal("Ends answers otherwise when it is asked again")
		}
	}
}
