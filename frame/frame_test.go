package frame

import (
	"encoding/binary"
	"hash/crc32"
	"slices"
	"strings"
	"testing"
	"unsafe"
)

// longest is how many bytes a payload has at most.
const longest = 1<<20 + 1

// text answers n bytes, unlike ones, others for each seed.
func text(n int, seed uint32) string {
	b := make([]byte, n)
	state := seed*2654435761 + uint32(n)
	for i := range b {
		state = state*1664525 + 1013904223
		b[i] = byte(state >> 24)
	}
	return string(b)
}

// high answers a number in four bytes, the highest first.
func high(n uint32) string {
	return string(binary.BigEndian.AppendUint32(nil, n))
}

// low answers a number in four bytes, the lowest first.
func low(n uint32) string {
	return string(binary.LittleEndian.AppendUint32(nil, n))
}

func crc(s string) uint32 {
	return crc32.ChecksumIEEE([]byte(s))
}

// head answers what stands ahead of a payload, if these are its length and its
// check sum: the check sum of the length is right.
func head(length, sum uint32) string {
	return high(length) + high(crc(high(length))) + high(sum)
}

// framed answers the payload's frame in the chapter's words, whatever its
// length is.
func framed(payload string) string {
	return head(uint32(len(payload)), crc(payload)) + payload
}

func framedAll(payloads []string) string {
	all := ""
	for _, p := range payloads {
		all += framed(p)
	}
	return all
}

// scans fails unless Scan tells just these payloads, and the bytes that their
// frames take.
func scans(t *testing.T, s string, want ...string) {
	t.Helper()
	taken := 12 * len(want)
	for _, p := range want {
		taken += len(p)
	}
	got, n := Scan(s)
	if !slices.Equal(got, want) || n != taken {
		t.Errorf("Scan of %d bytes %.40q: %d payloads %.80q, %d bytes, want %d payloads %.80q, %d bytes",
			len(s), s, len(got), got, n, len(want), want, taken)
	}
}

// P5.1: the chapter's example.
func TestExample(t *testing.T) {
	s, ok := Wrap("")
	if !ok || len(s) != 12 {
		t.Errorf("Wrap of nothing: %q, %v", s, ok)
	}
	for b := range 256 {
		scans(t, s+string([]byte{byte(b)}), "")
	}
}

// P5.1: frames, written out.
func TestWrapKnown(t *testing.T) {
	known := []struct{ payload, want string }{
		{"", "\x00\x00\x00\x00\x21\x44\xdf\x1c\x00\x00\x00\x00"},
		{"a", "\x00\x00\x00\x01\x56\x43\xef\x8a\xe8\xb7\xbe\x43a"},
		{"123456789", "\x00\x00\x00\x09\x58\x98\x67\xb8\xcb\xf4\x39\x26123456789"},
	}
	for _, k := range known {
		if got, ok := Wrap(k.payload); !ok || got != k.want {
			t.Errorf("Wrap(%q): %x, %v, want %x", k.payload, got, ok, k.want)
		}
		scans(t, k.want, k.payload)
	}
}

// P5.1: Wrap at many lengths, those where another byte of the length begins and
// the longest ones among them: the length, both sums and the payload stand
// there, the highest byte first, and Scan leads back.
func TestWrapLengths(t *testing.T) {
	lengths := []int{1000, 4096, 65535, 65536, 65537, 1<<20 - 1, 1 << 20, longest}
	for n := range 600 {
		lengths = append(lengths, n)
	}
	for _, n := range lengths {
		for _, payload := range []string{text(n, 1), strings.Repeat("\x00", n), strings.Repeat("\xff", n)} {
			got, ok := Wrap(payload)
			if !ok || got != framed(payload) {
				t.Fatalf("Wrap of %d bytes: %d bytes %.20x, %v", n, len(got), got, ok)
			}
			scans(t, got, payload)
		}
	}
	if s, _ := Wrap(text(longest, 1)); s[:4] != "\x00\x10\x00\x01" {
		t.Errorf("the longest payload's length: %x", s[:4])
	}
}

// P5.1: each byte alone.
func TestWrapBytes(t *testing.T) {
	for b := range 256 {
		payload := string([]byte{byte(b)})
		if got, ok := Wrap(payload); !ok || got != framed(payload) {
			t.Errorf("Wrap(%q): %x, %v", payload, got, ok)
		}
		scans(t, framed(payload), payload)
	}
}

// P5.1: payloads that are too long, by a byte and by more, those whose length's
// lower bytes are a right one among them.
func TestWrapTooLong(t *testing.T) {
	for _, n := range []int{longest + 1, longest + 2, 1<<20 + 256, 1 << 21, 1<<24 + 1, 1 << 25} {
		if s, ok := Wrap(strings.Repeat("x", n)); ok || s != "" {
			t.Errorf("Wrap of %d bytes: %d bytes, %v", n, len(s), ok)
		}
	}
}

// P5.1: Scan of nothing, of one frame, and of several one behind the other.
func TestScanFrames(t *testing.T) {
	scans(t, "")
	several := []string{"", "a", "", "", "\x00", text(300, 1), framed("inner"), text(70000, 2), ""}
	for n := range len(several) + 1 {
		scans(t, framedAll(several[:n]), several[:n]...)
		scans(t, framedAll(several[n:]), several[n:]...)
	}
	great := []string{text(longest, 1), "", text(longest, 2), "x", text(1<<20, 3)}
	scans(t, framedAll(great), great...)
	many := slices.Repeat([]string{"", "one"}, 2000)
	scans(t, framedAll(many), many...)
}

// noFrames answers texts that don't begin with a frame.
func noFrames() []string {
	l := []string{"x", "\x00", "\xff", "\x00\x00\x00\x00", framed("a")[:12], framed("")[:11], framed("")[1:], "x" + framed("")}
	for _, n := range []int{11, 12, 13, 100, 5000} {
		l = append(l, strings.Repeat("\x00", n), strings.Repeat("\xff", n), strings.Repeat("x", n), text(n, 7))
	}
	return l
}

// P5.1: frames with bytes behind them that are none: what is behind these isn't
// looked at.
func TestScanTails(t *testing.T) {
	for _, tail := range noFrames() {
		for _, payloads := range [][]string{nil, {""}, {"abc"}, {"", "x", text(500, 3)}} {
			scans(t, framedAll(payloads)+tail, payloads...)
		}
		if len(tail) >= 12 {
			scans(t, framed("abc")+tail+framed("def"), "abc")
		}
	}
}

// P5.2: frames cut off at every place.
func TestScanCut(t *testing.T) {
	lists := [][]string{{""}, {"x"}, {"", ""}, {"abc", "", text(40, 4), framed("inner"), "", text(300, 5)}}
	for _, payloads := range lists {
		all := framedAll(payloads)
		for cut := range len(all) + 1 {
			whole, end := 0, 0
			for whole < len(payloads) && end+12+len(payloads[whole]) <= cut {
				end += 12 + len(payloads[whole])
				whole++
			}
			scans(t, all[:cut], payloads[:whole]...)
		}
	}
}

// P5.2: the longest payload's frame, cut off.
func TestScanCutLongest(t *testing.T) {
	payload := text(longest, 6)
	all := framed("ahead") + framed(payload)
	for _, cut := range []int{17, 18, 21, 25, 28, 29, 30, 1 << 16, 1 << 20, len(all) - 13, len(all) - 12, len(all) - 2, len(all) - 1} {
		scans(t, all[:cut], "ahead")
	}
	scans(t, all, "ahead", payload)
}

// turned answers s with another byte at a place.
func turned(s string, at int, by byte) string {
	b := []byte(s)
	b[at] ^= by
	return string(b)
}

// P5.2: each byte of a frame turned into each other one, with frames ahead and
// whatever stands behind.
func TestScanTurned(t *testing.T) {
	for _, payload := range []string{"", "a", "\x00", "123456789", text(40, 8), strings.Repeat("\x00", 20), framed("inner")} {
		s := framed(payload)
		behind := []string{"", "\x00", "x", framed(""), framed(payload), framed(text(100, 9)) + framed("z"), text(1000, 10), strings.Repeat("\x00", 300)}
		for at := range s {
			for by := 1; by < 256; by++ {
				wrong := turned(s, at, byte(by))
				for _, tail := range behind {
					scans(t, wrong+tail)
				}
				scans(t, framed("abc")+framed("")+wrong+framed("def"), "abc", "")
			}
		}
	}
}

// P5.2: a length that is turned into another one is none, even where as many
// bytes stand there, and their sum is the one that is told.
func TestScanTurnedLength(t *testing.T) {
	zeros := strings.Repeat("\x00", longest)
	for _, n := range []int{0, 1, 5, 255, 256, 300} {
		for at := range 4 {
			for by := 1; by < 256; by++ {
				length := uint32(n) ^ uint32(by)<<(24-8*at)
				payload := ""
				if length <= longest {
					payload = zeros[:length]
				}
				wrong := high(length) + high(crc(high(uint32(n)))) + high(crc(payload)) + payload
				scans(t, wrong+framed("x"))
			}
		}
	}
}

// P5.2: bytes of long frames, turned.
func TestScanTurnedLong(t *testing.T) {
	for _, n := range []int{5000, 65536, longest} {
		s := framed(text(n, 11))
		for _, at := range []int{0, 1, 2, 3, 4, 7, 8, 11, 12, 13, 100, n / 2, n, n + 10, n + 11} {
			for _, by := range []byte{1, 128, 255} {
				scans(t, framed("abc")+turned(s, at, by)+framed("def"), "abc")
			}
		}
	}
}

// P5.1: a length above what may be, its own sum right, and so the payload's,
// with as many bytes as it says, fewer, and more.
func TestScanTooLong(t *testing.T) {
	for _, n := range []uint32{longest + 1, longest + 2, 1 << 21} {
		payload := strings.Repeat("x", int(n))
		s := head(n, crc(payload)) + payload
		scans(t, s)
		scans(t, framed("abc")+s+framed("def"), "abc")
		scans(t, s[:len(s)-1])
	}
	// Lengths that no text has here: whatever they are cut to as numbers of
	// fewer bits, or with a sign, they are none.
	for _, n := range []uint32{1 << 24, 1<<24 + 3, 1 << 30, 1<<31 - 1, 1 << 31, 1<<31 + 3, 1<<32 - 12, 1<<32 - 3, 1<<32 - 1} {
		for _, payload := range []string{"", "abc", text(1000, 12)} {
			scans(t, head(n, crc(payload))+payload)
			scans(t, framed("abc")+head(n, crc(payload))+payload, "abc")
		}
	}
}

// P5.1: a length that may be, its own sum right, beyond the text's end.
func TestScanBeyondEnd(t *testing.T) {
	for _, there := range []int{0, 1, 5, 12, 100} {
		body := text(there, 13)
		for _, n := range []int{there + 1, there + 2, there + 12, 65536, 1 << 20, longest} {
			scans(t, head(uint32(n), crc(body))+body)
			scans(t, framed("abc")+head(uint32(n), crc(body))+body, "abc")
		}
	}
}

// P5.1: sums that are not their own.
func TestScanWrongSums(t *testing.T) {
	const payload = "123456789"
	length := high(9)
	right := []string{length, high(crc(length)), high(crc(payload)), payload}
	scans(t, strings.Join(right, ""), payload)
	wrong := []struct {
		at   int
		part string
	}{
		{0, low(9)},
		{1, low(crc(length))}, {1, high(^crc(length))}, {1, high(crc(payload))}, {1, high(crc(low(9)))}, {1, high(0)}, {1, high(9)},
		{2, low(crc(payload))}, {2, high(^crc(payload))}, {2, high(crc(length))}, {2, high(crc("12345678"))},
		{2, high(crc(length + payload))}, {2, high(0)}, {2, high(crc(payload) + 1)}, {2, high(crc(payload) ^ 1<<31)},
		{3, "987654321"}, {3, "12345678\x00"}, {3, "\x00\x00\x00\x00\x00\x00\x00\x00\x00"}, {3, "23456789" + "1"},
	}
	for _, w := range wrong {
		parts := slices.Clone(right)
		parts[w.at] = w.part
		s := strings.Join(parts, "")
		scans(t, s)
		scans(t, framed("abc")+s+framed("def"), "abc")
	}
	scans(t, low(9)+high(crc(low(9)))+right[2]+payload)
}

// within tells whether a and b share bytes.
func within(a, b string) bool {
	if a == "" || b == "" {
		return false
	}
	at, from := uintptr(unsafe.Pointer(unsafe.StringData(a))), uintptr(unsafe.Pointer(unsafe.StringData(b)))
	return at < from+uintptr(len(b)) && from < at+uintptr(len(a))
}

// R4: what is answered shares no memory with what is handed in, nor with what
// was answered ahead; R7: it is the same each time.
func TestMemory(t *testing.T) {
	payload := text(50, 14)
	s, _ := Wrap(payload)
	again, _ := Wrap(payload)
	if s != again || within(s, payload) {
		t.Error("Wrap shares memory, or answers otherwise the second time")
	}
	all := s + s + framed("")
	first, _ := Scan(all)
	second, _ := Scan(all)
	if !slices.Equal(first, second) || len(first) != 3 {
		t.Fatalf("Scan: %q, then %q", first, second)
	}
	for _, p := range first {
		if within(p, all) {
			t.Error("Scan answers a piece of what was handed in")
		}
	}
	first[0] = "x"
	_ = append(first[:1], "y")
	if second[0] != payload || second[1] != payload {
		t.Error("two answers share a list")
	}
}
