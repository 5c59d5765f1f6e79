package cell

import (
	"math"
	"slices"
	"strings"
	"testing"

	"pleach/api"
)

// P3.1: the chapter's example, and other keys, digit by digit.
func TestKeyKnown(t *testing.T) {
	checkKnown(t, Key, []known{
		{nil, ""},
		{[]api.Val{num(0)}, "02 80 00 00 00 00 00 00 00"},
		{[]api.Val{{}}, "01"},
		{[]api.Val{num(1)}, "02 8000000000000001"},
		{[]api.Val{num(-1)}, "02 7fffffffffffffff"},
		{[]api.Val{num(0x0102030405060708)}, "02 8102030405060708"},
		{[]api.Val{num(math.MinInt64)}, "02 0000000000000000"},
		{[]api.Val{num(math.MaxInt64)}, "02 ffffffffffffffff"},
		{[]api.Val{flag(0), flag(1), {}}, "0300 0301 01"},
		{[]api.Val{text("")}, "04 0000"},
		{[]api.Val{text("a\x00b")}, "04 61 00ff 62 0000"},
		{[]api.Val{text("\x00\x00\xff\x00")}, "04 00ff 00ff ff 00ff 0000"},
		{[]api.Val{raw("\xff")}, "05 ff 0000"},
		{[]api.Val{raw(""), text("\x01"), num(2)}, "05 0000 04 01 0000 02 8000000000000002"},
		{[]api.Val{text(full)}, "04" + strings.Repeat("61", 1000) + "0000"},
		{[]api.Val{raw(strings.Repeat("\x00", 1000))}, "05" + strings.Repeat("00ff", 1000) + "0000"},
	})
}

// P3.1: Back of the keys of texts of as many bytes as there may be, and of one
// more; the marks behind bytes 0 don't count.
func TestBackLongTexts(t *testing.T) {
	key := codes()[1]
	for _, piece := range []struct{ s, marked string }{{"a", "a"}, {"\xff", "\xff"}, {"\x00", "\x00\xff"}} {
		for _, kind := range []int{api.Text, api.Bytes} {
			first := string([]byte{byte(kind + 1)})
			most := first + strings.Repeat(piece.marked, 1000)
			want := []api.Val{{Kind: kind, S: strings.Repeat(piece.s, 1000)}}
			if l, ok := Back(most + "\x00\x00"); !ok || !slices.Equal(l, want) {
				t.Errorf("Back of 1000 bytes %q: %s, %v", piece.s, told(l...), ok)
			}
			for _, more := range []int{1, 2, 24, 65536, 1000000} {
				checkNone(t, key, most+strings.Repeat(piece.marked, more)+"\x00\x00")
				checkNone(t, key, most+strings.Repeat(piece.marked, more))
			}
			checkNone(t, key, most)
			checkNone(t, key, most+"\x00")
		}
	}
}

// P3.1: keys that no tuple has.
func TestBackWrong(t *testing.T) {
	wrong := []string{
		"\x00", "\x06", "\x07", "\x7f", "\x80", "\xff", "\x01\x00", "\x01\x06", "\x02", "\x02\x80\x00\x00\x00\x00\x00\x00",
		"\x03", "\x03\x02", "\x03\x80", "\x03\xff", "\x03\x01\x02", "\x04", "\x05", "\x04\x00", "\x04a", "\x04a\x00",
		"\x04a\x00\x01", "\x04a\x00\x01\x00\x00", "\x04a\x00\xfe\x00\x00", "\x04\x00a\x00\x00", "\x05\x00\xff", "\x05\x00\xff\x00",
		"\x04a\x00\x00\x00", "\x04\x00\x00\x00\x00", "\x05\x00\x00\xff",
		strings.Repeat("\x01", 65), strings.Repeat("\x03\x00", 65), strings.Repeat("\x04\x00\x00", 65),
		strings.Repeat("\x01", 1000000),
	}
	for _, s := range wrong {
		checkNone(t, codes()[1], s)
	}
}

// P3.2: keys are in order just as the tuples are, which are in the order in
// which their values are listed.
func TestKeyOrder(t *testing.T) {
	vals := risingVals()
	for _, places := range pairsOfPlaces(len(vals)) {
		a, b := at(vals, places[0]), at(vals, places[1])
		checkKeyOrder(t, a, b, slices.Compare(places[0], places[1]))
	}
}

// P3.2: all tuples at hand, sorted, have keys that rise.
func TestKeysRise(t *testing.T) {
	list := tuples()
	slices.SortFunc(list, Compare)
	for i := 1; i < len(list); i++ {
		checkKeyOrder(t, list[i-1], list[i], Compare(list[i-1], list[i]))
	}
}

// P3.2: what follows a text plays no part, where the texts differ.
func TestKeyOrderBehindTexts(t *testing.T) {
	texts := risingTexts()
	behind := [][]api.Val{nil, {{}}, {num(math.MinInt64)}, {num(math.MaxInt64)}, {flag(0)}, {text("")}, {raw("\xff\xff")}}
	for i, s := range texts {
		for j, other := range texts {
			if i == j {
				continue
			}
			want := 1
			if i < j {
				want = -1
			}
			for _, x := range behind {
				for _, y := range behind {
					a := append([]api.Val{text(s)}, x...)
					b := append([]api.Val{text(other)}, y...)
					checkKeyOrder(t, a, b, want)
				}
			}
		}
	}
}

func checkKeyOrder(t *testing.T, a, b []api.Val, want int) {
	t.Helper()
	keyA, okA := Key(a)
	keyB, okB := Key(b)
	if !okA || !okB || strings.Compare(keyA, keyB) != want || Compare(a, b) != want {
		t.Errorf("%s and %s: want %d, Compare %d, keys %.40x and %.40x", told(a...), told(b...), want, Compare(a, b), keyA, keyB)
	}
}
