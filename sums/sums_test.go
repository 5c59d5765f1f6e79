package sums

import (
	"encoding/hex"
	"hash/crc32"
	"math/bits"
	"strings"
	"testing"
)

// P1.1: the chapter's example, and texts whose check sums are widely known.
func TestCheckKnown(t *testing.T) {
	known := []struct {
		text string
		sum  uint32
	}{
		{"", 0},
		{"\x00", 0xD202EF8D},
		{"\xff", 0xFF000000},
		{"a", 0xE8B7BE43},
		{"123456789", 0xCBF43926},
		{"The quick brown fox jumps over the lazy dog", 0x414FA339},
	}
	for _, k := range known {
		if got := Check(k.text); got != k.sum {
			t.Errorf("Check(%q): %08X, want %08X", k.text, got, k.sum)
		}
	}
}

// P1.1: each byte alone, and texts of many lengths.
func TestCheckLengths(t *testing.T) {
	for b := range 256 {
		checkCheck(t, string([]byte{byte(b)}))
	}
	for n := range 400 {
		for _, text := range fills(n) {
			checkCheck(t, text)
		}
	}
	for _, text := range fills(1 << 20) {
		checkCheck(t, text)
	}
}

func checkCheck(t *testing.T, text string) {
	t.Helper()
	want := crc32.ChecksumIEEE([]byte(text))
	if got := Check(text); got != want {
		t.Errorf("Check of %d bytes %.20q: %08X, want %08X", len(text), text, got, want)
	}
}

// P1.2: all that a byte, and two side by side, may be turned to, have check
// sums of their own.
func TestCheckOneAndTwoBytes(t *testing.T) {
	for _, n := range []int{1, 2, 3, 64, 65} {
		text := fills(n)[2]
		for _, width := range []int{1, 2} {
			for at := 0; at+width <= n && at < 3; at++ {
				checkWindow(t, text, at, width)
			}
		}
	}
}

// checkWindow tells of two texts with one check sum among those that have
// anything in the window, and elsewhere what text has.
func checkWindow(t *testing.T, text string, at, width int) {
	t.Helper()
	seen := make(map[uint32]int)
	for v := range 1 << (8 * width) {
		b := []byte(text)
		for i := range width {
			b[at+i] = byte(v >> (8 * i))
		}
		sum := Check(string(b))
		if other, ok := seen[sum]; ok {
			t.Fatalf("%d bytes, %d at %d: %x and %x have one check sum", len(text), width, at, v, other)
		}
		seen[sum] = v
	}
}

// P1.2: what a turned bit does to a check sum hangs on its place and the length
// alone, and what several do is that of each, put together without carry. So
// two texts that differ within a window have one check sum only if what its
// bits do is not independent: here it is, at each window of up to four bytes.
func TestCheckFourBytes(t *testing.T) {
	for n := 1; n <= 140; n++ {
		text := fills(n)[2]
		effects := make([]uint32, 8*n)
		for bit := range effects {
			effects[bit] = Check(text) ^ Check(turned(text, bit))
		}
		for at := range n {
			end := min(at+4, n)
			window := effects[8*at : 8*end]
			if rank(window) != len(window) {
				t.Errorf("%d bytes, at %d: two texts have one check sum", n, at)
			}
		}
	}
}

// P1.2: unlike texts, four bytes side by side turned each way that is tried.
func TestCheckFourBytesTried(t *testing.T) {
	for _, n := range []int{4, 5, 17, 64, 300} {
		text := fills(n)[2]
		sum := Check(text)
		turn := uint32(1)
		for try := range 20000 {
			turn = turn*1664525 + 1013904223
			at := try % (n - 3)
			b := []byte(text)
			for i := range 4 {
				b[at+i] ^= byte(turn >> (8 * i))
			}
			if turn != 0 && Check(string(b)) == sum {
				t.Fatalf("%d bytes, at %d: turned by %08x, the check sum stays", n, at, turn)
			}
		}
	}
}

// rank answers how many of the numbers are independent, put together without
// carry.
func rank(numbers []uint32) int {
	var byTop [32]uint32
	count := 0
	for _, n := range numbers {
		for n != 0 {
			top := bits.Len32(n) - 1
			if byTop[top] == 0 {
				byTop[top] = n
				count++
				break
			}
			n ^= byTop[top]
		}
	}
	return count
}

// P1.1: each byte in two digits, and back.
func TestHexAndRaw(t *testing.T) {
	texts := []string{"", "\x00", "\x0f", "\xf0", "\xff", "abc", "\x00\xffz", "\xc3\x28 not UTF-8"}
	for b := range 256 {
		texts = append(texts, string([]byte{byte(b)}))
	}
	texts = append(texts, fills(1000)...)
	for _, text := range texts {
		digits := Hex(text)
		if want := hex.EncodeToString([]byte(text)); digits != want {
			t.Errorf("Hex(%.20q): %.40s, want %.40s", text, digits, want)
		}
		if raw, ok := Raw(digits); !ok || raw != text {
			t.Errorf("Raw(%.40q): %.20q, %v", digits, raw, ok)
		}
	}
	if Hex("\x09\xaf") != "09af" {
		t.Errorf("Hex: %s", Hex("\x09\xaf"))
	}
}

// P1.1: two characters are digits of a byte just if they are two of 0 to 9, a
// to f.
func TestRawPairs(t *testing.T) {
	const digits = "0123456789abcdef"
	for v := range 1 << 16 {
		pair := string([]byte{byte(v >> 8), byte(v)})
		high, low := strings.IndexByte(digits, pair[0]), strings.IndexByte(digits, pair[1])
		raw, ok := Raw(pair)
		if high < 0 || low < 0 {
			if ok || raw != "" {
				t.Fatalf("Raw(%q): %q, %v", pair, raw, ok)
			}
			continue
		}
		if want := string([]byte{byte(16*high + low)}); !ok || raw != want {
			t.Fatalf("Raw(%q): %q, %v, want %q", pair, raw, ok, want)
		}
	}
}

// P1.1: digits that are no bytes' Hex.
func TestRawWrong(t *testing.T) {
	long := strings.Repeat("00", 500)
	wrong := []string{
		"0", "f", "g", "000", "abc", "FF", "fF", "Ff", "AB", "0g", "g0", "zz", "0x", "0x00",
		"00 ", " 00", "0 0", "00\n", "-1", "+1", "1.", "/0", ":0", "`0", "\x00\x00", "\xff\xff",
		"\u00e9", "\uff10\uff10", "00é", long + "0", long + "0G", "g0" + long, "0" + long,
	}
	for _, digits := range wrong {
		if raw, ok := Raw(digits); ok || raw != "" {
			t.Errorf("Raw(%.20q): %q, %v", digits, raw, ok)
		}
	}
	if raw, ok := Raw(""); !ok || raw != "" {
		t.Errorf("Raw of no digits: %q, %v", raw, ok)
	}
}

func BenchmarkPrint(b *testing.B) {
	for _, n := range []int{40, 4096} {
		text := fills(n)[2]
		b.Run(Hex(string([]byte{byte(n >> 8), byte(n)})), func(b *testing.B) {
			b.SetBytes(int64(n))
			for b.Loop() {
				Print(text)
			}
		})
	}
}

func BenchmarkCheck(b *testing.B) {
	text := fills(4096)[2]
	b.SetBytes(4096)
	for b.Loop() {
		Check(text)
	}
}
