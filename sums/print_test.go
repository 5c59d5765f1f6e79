package sums

import (
	"crypto/sha256"
	"math/big"
	"strings"
	"testing"
)

// P1.1: the chapter's example, and texts whose fingerprints are widely known.
func TestPrintKnown(t *testing.T) {
	known := []struct{ text, hex string }{
		{"", "e3b0c44298fc1c149afbf4c8996fb92427ae41e4649b934ca495991b7852b855"},
		{"abc", "ba7816bf8f01cfea414140de5dae2223b00361a396177a9cb410ff61f20015ad"},
		{"The quick brown fox jumps over the lazy dog", "d7a8fbb307d7809469ca9abcb0082e4f8d5651e46d3cdb762d02d0bf37c9e592"},
		{"abcdbcdecdefdefgefghfghighijhijkijkljklmklmnlmnomnopnopq", "248d6a61d20638b8e5c026930c3e6039a33ce45964ff2167f6ecedd419db06c1"},
		{strings.Repeat("a", 1000000), "cdc76e5c9914fb9281a1c7e284d73e67f1809a48a497200e046d39ccc7112cd0"},
	}
	for _, k := range known {
		if got := Hex(Print(k.text)); got != k.hex {
			t.Errorf("Print(%.20q): %s, want %s", k.text, got, k.hex)
		}
	}
}

// P1.1: each length up to some blocks, so that each padding is met, those at
// 55, 56, 63, 64 and 119 bytes among them.
func TestPrintLengths(t *testing.T) {
	for n := range 400 {
		for _, text := range fills(n) {
			checkPrint(t, text)
		}
	}
	for _, n := range []int{1000, 4095, 4096, 8183, 8184, 65535, 1 << 20} {
		for _, text := range fills(n) {
			checkPrint(t, text)
		}
	}
}

// P1.1: each value of a byte, at each place of a word.
func TestPrintBytes(t *testing.T) {
	for b := range 256 {
		for place := range 4 {
			text := []byte("\x00\x00\x00\x00")
			text[place] = byte(b)
			checkPrint(t, string(text))
		}
	}
}

// P1.1: each turned bit leads to another fingerprint.
func TestPrintTurnedBits(t *testing.T) {
	const size = 130
	text := fills(size)[2]
	seen := map[string]int{Print(text): -1}
	for bit := range 8 * size {
		p := Print(turned(text, bit))
		if other, ok := seen[p]; ok {
			t.Errorf("bits %d and %d: one fingerprint", bit, other)
		}
		seen[p] = bit
	}
}

// P1.1: the numbers of the tables are what the chapter says of roots of primes.
func TestPrintTables(t *testing.T) {
	primes := firstPrimes(64)
	for i, k := range roundConst {
		if want := rootBits(primes[i], 3); k != want {
			t.Errorf("cube root of %d: %08x, want %08x", primes[i], k, want)
		}
	}
	for i, h := range firstState() {
		if want := rootBits(primes[i], 2); h != want {
			t.Errorf("square root of %d: %08x, want %08x", primes[i], h, want)
		}
	}
}

// R7: what was asked ahead plays no part.
func TestPrintAgain(t *testing.T) {
	first := Print("abc")
	Print(strings.Repeat("x", 1000))
	if Print("abc") != first {
		t.Error("Print answers otherwise the second time")
	}
}

func checkPrint(t *testing.T, text string) {
	t.Helper()
	want := sha256.Sum256([]byte(text))
	if got := Print(text); got != string(want[:]) {
		t.Errorf("Print of %d bytes %.20q: %x, want %x", len(text), text, got, want)
	}
}

// fills answers texts of n bytes: all 0, all 255, and unlike ones.
func fills(n int) []string {
	mixed := make([]byte, n)
	state := uint32(n) + 1
	for i := range mixed {
		state = state*1664525 + 1013904223
		mixed[i] = byte(state >> 24)
	}
	return []string{strings.Repeat("\x00", n), strings.Repeat("\xff", n), string(mixed)}
}

func turned(text string, bit int) string {
	b := []byte(text)
	b[bit/8] ^= 1 << (bit % 8)
	return string(b)
}

func firstPrimes(n int) []int64 {
	var primes []int64
	for p := int64(2); len(primes) < n; p++ {
		if big.NewInt(p).ProbablyPrime(10) {
			primes = append(primes, p)
		}
	}
	return primes
}

// rootBits answers the first 32 bits behind the point of a root of n: the
// greatest r with r^degree at most n times 2^(32 degree), modulo 2^32.
func rootBits(n int64, degree uint) uint32 {
	bound := new(big.Int).Lsh(big.NewInt(n), 32*degree)
	root := new(big.Int)
	for bit := 40; bit >= 0; bit-- {
		next := new(big.Int).SetBit(root, bit, 1)
		power := new(big.Int).Exp(next, big.NewInt(int64(degree)), nil)
		if power.Cmp(bound) <= 0 {
			root = next
		}
	}
	return uint32(root.Uint64())
}
