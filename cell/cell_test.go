package cell

import (
	"fmt"
	"math"
	"slices"
	"strings"
	"testing"

	"pleach/api"
)

func num(n int64) api.Val   { return api.Val{Kind: api.Int, N: n} }
func flag(n int64) api.Val  { return api.Val{Kind: api.Bool, N: n} }
func text(s string) api.Val { return api.Val{Kind: api.Text, S: s} }
func raw(s string) api.Val  { return api.Val{Kind: api.Bytes, S: s} }

// full is a text of as many bytes as it may have, over one more than it may.
var (
	full = strings.Repeat("a", api.MaxText)
	over = strings.Repeat("a", api.MaxText+1)
)

// risingTexts answers texts in their order.
func risingTexts() []string {
	return []string{
		"", "\x00", "\x00\x00", "\x00\x00\x00", "\x00\x00\xff", "\x00\x01", "\x00a", "\x00\xfe", "\x00\xff",
		"\x00\xff\x00", "\x01", "\x01\x00", "\x02", "'", "a", "a\x00", "a\x00\x00", "a\x00b", "a\x01", "aa", full, "ab",
		"b", "\xc3\xa9", "\xfe\xff", "\xff", "\xff\x00", "\xff\x00\x00", "\xff\xff",
	}
}

// risingVals answers right values of each Kind in their order.
func risingVals() []api.Val {
	l := []api.Val{{}}
	for _, n := range []int64{
		math.MinInt64, math.MinInt64 + 1, math.MinInt32 - 1, -65536, -257, -256, -255, -2, -1, 0,
		1, 2, 127, 128, 255, 256, 65535, math.MaxInt32 + 1, math.MaxInt64 - 1, math.MaxInt64,
	} {
		l = append(l, num(n))
	}
	l = append(l, flag(0), flag(1))
	for _, s := range risingTexts() {
		l = append(l, text(s))
	}
	for _, s := range risingTexts() {
		l = append(l, raw(s))
	}
	return l
}

// wrongVals answers, of each Kind and of Kinds that there are not, what isn't
// right, in the order of Kind, N, S.
func wrongVals() []api.Val {
	return []api.Val{
		{Kind: math.MinInt, N: 9, S: "z"}, {Kind: math.MinInt + 1}, {Kind: -256}, {Kind: -2},
		{Kind: -1}, {Kind: -1, S: "a"}, {Kind: -1, N: 1},
		{N: math.MinInt64}, {N: -1}, {N: -1, S: "b"}, {S: "\x00"}, {S: "a"}, {N: 1}, {N: 1, S: "a"}, {N: math.MaxInt64},
		{Kind: api.Int, N: -5, S: "z"}, {Kind: api.Int, S: "\x00"}, {Kind: api.Int, S: "1"}, {Kind: api.Int, N: 1, S: "1"},
		{Kind: api.Bool, N: math.MinInt64}, {Kind: api.Bool, N: -1}, {Kind: api.Bool, S: "x"},
		{Kind: api.Bool, N: 1, S: "x"}, {Kind: api.Bool, N: 2}, {Kind: api.Bool, N: 256}, {Kind: api.Bool, N: 257},
		{Kind: api.Bool, N: math.MaxInt64},
		{Kind: api.Text, N: -1}, {Kind: api.Text, N: -1, S: "z"}, {Kind: api.Text, S: over}, {Kind: api.Text, S: over + "a"},
		{Kind: api.Text, N: 1}, {Kind: api.Text, N: 1, S: "a"},
		{Kind: api.Bytes, N: math.MinInt64, S: "a"}, {Kind: api.Bytes, S: over}, {Kind: api.Bytes, N: 1},
		{Kind: 5}, {Kind: 5, S: "\x00"}, {Kind: 5, N: 1}, {Kind: 6}, {Kind: 255},
		{Kind: 256}, {Kind: 257}, {Kind: 258}, {Kind: 259, S: "a"}, {Kind: math.MaxInt},
	}
}

// told tells of values what fits on a line.
func told(l ...api.Val) string {
	var words []string
	for _, v := range l[:min(len(l), 4)] {
		words = append(words, fmt.Sprintf("%d/%d/%.12q", v.Kind, v.N, v.S))
	}
	return fmt.Sprintf("%d values %v", len(l), words)
}

// P3.1: values of every Kind, at the edges of each.
func TestRight(t *testing.T) {
	for _, v := range risingVals() {
		if !Right(v) {
			t.Errorf("Right(%s): false", told(v))
		}
	}
	for _, v := range wrongVals() {
		if Right(v) {
			t.Errorf("Right(%s): true", told(v))
		}
	}
	for kind := -300; kind <= 600; kind++ {
		if want := 0 <= kind && kind <= 4; Right(api.Val{Kind: kind}) != want {
			t.Errorf("Right of Kind %d: %v", kind, !want)
		}
	}
	for _, kind := range []int{api.Text, api.Bytes} {
		for _, size := range []int{0, 1, 999, 1000, 1001, 1256, 65536, 66000} {
			v := api.Val{Kind: kind, S: strings.Repeat("\x00", size)}
			if want := size <= 1000; Right(v) != want {
				t.Errorf("Right of Kind %d with %d bytes: %v", kind, size, !want)
			}
		}
	}
}

// P3.1: Compare of each two right values, and of tuples of up to three of
// them, against the order in which the values are listed.
func TestCompareTuples(t *testing.T) {
	vals := risingVals()
	for _, places := range pairsOfPlaces(len(vals)) {
		checkCompare(t, vals, places[0], places[1])
	}
}

// P3.1: Compare of lists that are no tuples: values by Kind, N, S; and lists
// that are too long.
func TestCompareNoTuples(t *testing.T) {
	vals := wrongVals()
	for _, places := range pairsOfPlaces(len(vals)) {
		checkCompare(t, vals, places[0], places[1])
	}
	long := make([]api.Val, api.MaxVals+10)
	longer := append(slices.Clone(long), api.Val{})
	above := slices.Clone(long)
	above[len(above)-1] = num(1)
	for _, c := range []struct {
		a, b []api.Val
		want int
	}{
		{long, slices.Clone(long), 0}, {long, longer, -1}, {longer, long, 1}, {long, above, -1},
		{above, longer, 1}, {nil, long, -1}, {long, nil, 1},
		{[]api.Val{{Kind: api.Bool, N: 1}}, []api.Val{{Kind: api.Bool, N: 2}}, -1},
		{[]api.Val{text("b")}, []api.Val{{Kind: api.Text, N: 1, S: "a"}}, -1},
		{[]api.Val{{}}, []api.Val{{Kind: -1}}, 1},
		{[]api.Val{num(3), {S: "b"}}, []api.Val{num(3), {S: "a"}}, 1},
		{[]api.Val{{Kind: 7, N: 1, S: "a"}}, []api.Val{{Kind: 7, N: 1, S: "a"}}, 0},
	} {
		if got := Compare(c.a, c.b); got != c.want {
			t.Errorf("Compare(%s, %s): %d, want %d", told(c.a...), told(c.b...), got, c.want)
		}
	}
}

// P3.1: the empty tuple, nil or not, is below all others and like itself.
func TestCompareEmpty(t *testing.T) {
	if Compare(nil, nil) != 0 || Compare(nil, []api.Val{}) != 0 || Compare([]api.Val{}, nil) != 0 {
		t.Error("the empty tuple isn't like itself")
	}
	for _, v := range append(risingVals(), wrongVals()...) {
		if Compare(nil, []api.Val{v}) != -1 || Compare([]api.Val{v}, []api.Val{}) != 1 {
			t.Errorf("the empty tuple isn't below %s", told(v))
		}
	}
}

// pairsOfPlaces answers pairs of lists of places below n: all pairs of up to
// one place, and many of up to three, among them such as begin one another.
func pairsOfPlaces(n int) [][2][]int {
	short := [][]int{{}}
	for i := range n {
		short = append(short, []int{i})
	}
	var pairs [][2][]int
	for _, a := range short {
		for _, b := range short {
			pairs = append(pairs, [2][]int{a, b})
		}
	}
	next := numbers(1)
	for range 20000 {
		var a, b []int
		for range next(4) {
			a = append(a, next(n))
		}
		b = append(b, a[:next(len(a)+1)]...)
		for len(b) < 3 && next(3) > 0 {
			b = append(b, next(n))
		}
		pairs = append(pairs, [2][]int{a, b}, [2][]int{b, a})
	}
	return pairs
}

// numbers answers a source of numbers from 0 to below what it is asked for,
// the same ones each time.
func numbers(seed uint64) func(int) int {
	return func(below int) int {
		seed = seed*6364136223846793005 + 1442695040888963407
		return int(seed>>33) % below
	}
}

func checkCompare(t *testing.T, vals []api.Val, a, b []int) {
	t.Helper()
	want := slices.Compare(a, b)
	if got := Compare(at(vals, a), at(vals, b)); got != want {
		t.Errorf("Compare(%s, %s): %d, want %d", told(at(vals, a)...), told(at(vals, b)...), got, want)
	}
}

// at answers the values at those places.
func at(vals []api.Val, places []int) []api.Val {
	var l []api.Val
	for _, i := range places {
		l = append(l, vals[i])
	}
	return l
}

// P3.1: what is shown of every Kind.
func TestShow(t *testing.T) {
	for _, c := range []struct {
		v    api.Val
		want string
	}{
		{api.Val{}, "NULL"},
		{num(0), "0"}, {num(7), "7"}, {num(-1), "-1"}, {num(1000000), "1000000"},
		{num(math.MaxInt64), "9223372036854775807"}, {num(math.MinInt64), "-9223372036854775808"},
		{flag(0), "FALSE"}, {flag(1), "TRUE"},
		{text(""), "''"}, {text("a"), "'a'"}, {text("NULL"), "'NULL'"}, {text("'"), "''''"}, {text("''"), "''''''"},
		{text("it's"), "'it''s'"}, {text("'a'"), "'''a'''"}, {text("\x00\n\\\"\xff"), "'\x00\n\\\"\xff'"},
		{text(full), "'" + full + "'"}, {text(strings.Repeat("'", 1000)), strings.Repeat("'", 2002)},
		{raw(""), "x''"}, {raw("\x00\xff"), "x'00ff'"}, {raw("'"), "x'27'"}, {raw("az"), "x'617a'"},
		{raw("\xab\xcd\xef"), "x'abcdef'"}, {raw(full), "x'" + strings.Repeat("61", 1000) + "'"},
	} {
		if got := Show(c.v); got != c.want {
			t.Errorf("Show(%s): %.40s, want %.40s", told(c.v), got, c.want)
		}
	}
}

// P3.1: of what isn't right ? is shown, and unlike values look unlike.
func TestShowWrongAndUnlike(t *testing.T) {
	for _, v := range wrongVals() {
		if got := Show(v); got != "?" {
			t.Errorf("Show(%s): %.40s", told(v), got)
		}
	}
	seen := make(map[string]api.Val)
	for _, v := range risingVals() {
		shown := Show(v)
		if other, ok := seen[shown]; ok || shown == "?" {
			t.Errorf("%s and %s: %.40s", told(v), told(other), shown)
		}
		seen[shown] = v
	}
}
