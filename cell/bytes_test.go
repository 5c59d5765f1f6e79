package cell

import (
	"encoding/binary"
	"encoding/hex"
	"math"
	"slices"
	"strings"
	"testing"

	"pleach/api"
)

// code is one of the two ways in which tuples are texts.
type code struct {
	name  string
	out   func([]api.Val) (string, bool)
	in    func(string) ([]api.Val, bool)
	above int // how far the byte of a Kind is above the Kind
}

func codes() []code {
	return []code{{"Write", Write, Read, 0}, {"Key", Key, Back, 1}}
}

// tuples answers tuples of right values: the empty one, all of one value, of
// each two, and some longer ones up to the longest.
func tuples() [][]api.Val {
	vals := risingVals()
	l := [][]api.Val{nil, {}}
	for _, a := range vals {
		l = append(l, []api.Val{a})
		for _, b := range vals {
			l = append(l, []api.Val{a, b})
		}
	}
	next := numbers(2)
	for size := 3; size <= api.MaxVals; size++ {
		for range 3 {
			var long []api.Val
			for range size {
				long = append(long, vals[next(len(vals))])
			}
			l = append(l, long)
		}
	}
	for _, v := range vals {
		l = append(l, slices.Repeat([]api.Val{v}, api.MaxVals))
	}
	return l
}

// wantBytes is the tuple's bytes, in the chapter's words once more.
func wantBytes(l []api.Val) string {
	var b []byte
	for _, v := range l {
		b = append(b, byte(v.Kind))
		switch v.Kind {
		case api.Int:
			b = binary.BigEndian.AppendUint64(b, uint64(v.N))
		case api.Bool:
			b = append(b, byte(v.N))
		case api.Text, api.Bytes:
			b = binary.BigEndian.AppendUint16(b, uint16(len(v.S)))
			b = append(b, v.S...)
		}
	}
	return string(b)
}

// P3.1: bytes, digit by digit.
func TestWriteKnown(t *testing.T) {
	checkKnown(t, Write, []known{
		{nil, ""},
		{[]api.Val{{}}, "00"},
		{[]api.Val{{}, {}}, "0000"},
		{[]api.Val{num(0)}, "01 0000000000000000"},
		{[]api.Val{num(1)}, "01 0000000000000001"},
		{[]api.Val{num(-1)}, "01 ffffffffffffffff"},
		{[]api.Val{num(0x0102030405060708)}, "01 0102030405060708"},
		{[]api.Val{num(math.MinInt64)}, "01 8000000000000000"},
		{[]api.Val{num(math.MaxInt64)}, "01 7fffffffffffffff"},
		{[]api.Val{flag(0), flag(1)}, "0200 0201"},
		{[]api.Val{text("")}, "03 0000"},
		{[]api.Val{text("a\x00b")}, "03 0003 610062"},
		{[]api.Val{raw("\xff")}, "04 0001 ff"},
		{[]api.Val{raw("\x00\x00"), {}, text("'")}, "04 0002 0000 00 03 0001 27"},
		{[]api.Val{text(full)}, "03 03e8 " + strings.Repeat("61", 1000)},
		{[]api.Val{raw(full[:256])}, "04 0100 " + strings.Repeat("61", 256)},
	})
}

type known struct {
	l      []api.Val
	digits string
}

func checkKnown(t *testing.T, out func([]api.Val) (string, bool), list []known) {
	t.Helper()
	for _, k := range list {
		want := strings.ReplaceAll(k.digits, " ", "")
		if got, ok := out(k.l); !ok || hex.EncodeToString([]byte(got)) != want {
			t.Errorf("%s: %.40x, %v, want %.40s", told(k.l...), got, ok, want)
		}
	}
}

// P3.1: bytes of all tuples at hand.
func TestWrite(t *testing.T) {
	for _, l := range tuples() {
		if got, ok := Write(l); !ok || got != wantBytes(l) {
			t.Errorf("Write(%s): %.40x, %v, want %.40x", told(l...), got, ok, wantBytes(l))
		}
	}
}

// P3.1, P3.2: out and in are each other's way back, so that unlike tuples have
// unlike bytes, and unlike keys.
func TestThereAndBack(t *testing.T) {
	for _, c := range codes() {
		from := make(map[string][]api.Val)
		for _, l := range tuples() {
			s, ok := c.out(l)
			if !ok {
				t.Errorf("%s(%s): no tuple", c.name, told(l...))
			}
			if got, ok := c.in(s); !ok || !slices.Equal(got, l) {
				t.Errorf("%s: back from %s: %s, %v", c.name, told(l...), told(got...), ok)
			}
			if other, there := from[s]; there && !slices.Equal(other, l) {
				t.Errorf("%s: %s and %s are alike", c.name, told(l...), told(other...))
			}
			from[s] = l
		}
	}
}

// P3.1: what is no tuple: with a value that isn't right at any place, or with
// too many.
func TestNoTuple(t *testing.T) {
	right := risingVals()
	var lists [][]api.Val
	for i, v := range wrongVals() {
		some := right[i%len(right)]
		lists = append(lists, []api.Val{v}, []api.Val{v, some}, []api.Val{some, v}, []api.Val{some, v, some})
		last := make([]api.Val, api.MaxVals)
		last[api.MaxVals-1] = v
		lists = append(lists, last)
	}
	for _, size := range []int{api.MaxVals + 1, api.MaxVals + 2, 255, 256, 257, 1000} {
		lists = append(lists, make([]api.Val, size), slices.Repeat([]api.Val{num(1)}, size))
	}
	for _, c := range codes() {
		for _, l := range lists {
			if got, ok := c.out(l); ok || got != "" {
				t.Errorf("%s(%s): %.40x, %v", c.name, told(l...), got, ok)
			}
		}
		if got, ok := c.out(make([]api.Val, 64)); !ok || len(got) != 64 {
			t.Errorf("%s of 64 Nulls: %x, %v", c.name, got, ok)
		}
	}
}

// checkNone fails if there is a tuple whose text is s.
func checkNone(t *testing.T, c code, s string) {
	t.Helper()
	if l, ok := c.in(s); ok || len(l) != 0 {
		t.Errorf("back of %s, %.40x: %s, %v", c.name, s, told(l...), ok)
	}
}

// checkWayBack fails if a tuple is read from s that has another text, or isn't
// a tuple.
func checkWayBack(t *testing.T, c code, s string) {
	t.Helper()
	l, ok := c.in(s)
	if !ok {
		if len(l) != 0 {
			t.Errorf("back of %s, %.40x: %s beside false", c.name, s, told(l...))
		}
		return
	}
	if again, is := c.out(l); !is || again != s {
		t.Errorf("back of %s, %.40x: %s, whose text is %.40x", c.name, s, told(l...), again)
	}
}

// P3.1: bytes that no tuple has.
func TestReadWrong(t *testing.T) {
	wrong := []string{
		"\x05", "\x06", "\x7f", "\x80", "\xff", "\x00\x05", "\x01", "\x01\x00", "\x01\x00\x00\x00\x00\x00\x00\x00",
		"\x02", "\x02\x02", "\x02\x80", "\x02\xff", "\x02\x01\x02", "\x03", "\x04", "\x03\x00", "\x04\x00",
		"\x03\x00\x01", "\x03\x00\x02a", "\x04\x00\x02a", "\x04\x01\x00a", "\x03\x01\x01" + full[:256],
		"\x03\xff\xffa", "\x03\x03\xe9" + over, "\x04\x03\xe9" + over, "\x03\x04\x00" + full + full,
		"\x04\xff\xff" + strings.Repeat("a", 65535), "\x03\x03\xe8" + full[1:],
		strings.Repeat("\x00", 65), strings.Repeat("\x02\x00", 65), strings.Repeat("\x03\x00\x00", 65),
		strings.Repeat("\x00", 1000000),
	}
	for _, s := range wrong {
		checkNone(t, codes()[0], s)
	}
}

// P3.1: a text that is cut off is that of the values that are whole, or of
// none; one that goes on has no tuple if what comes is no value.
func TestCutOffAndGoingOn(t *testing.T) {
	vals := []api.Val{{}, num(-2), flag(1), text("a\x00b\xff"), raw("\x00"), text(""), num(math.MaxInt64), raw("xyz")}
	for _, c := range codes() {
		ends := make(map[int]int)
		for n := range len(vals) + 1 {
			s, _ := c.out(vals[:n])
			ends[len(s)] = n
		}
		all, _ := c.out(vals)
		for size := range len(all) + 1 {
			n, whole := ends[size]
			if !whole {
				checkNone(t, c, all[:size])
				continue
			}
			if l, ok := c.in(all[:size]); !ok || !slices.Equal(l, vals[:n]) {
				t.Errorf("%s cut off behind %d: %v, %v", c.name, size, l, ok)
			}
		}
		for kind := 1; kind <= 4; kind++ {
			checkNone(t, c, all+string([]byte{byte(kind + c.above)}))
		}
		for b := 5 + c.above; b <= 255; b++ {
			checkNone(t, c, all+string([]byte{byte(b)}))
		}
	}
}

// P3.1: all texts of up to two bytes, and all short ones of the bytes that
// mean something.
func TestShortTexts(t *testing.T) {
	for _, c := range codes() {
		checkWayBack(t, c, "")
		if l, ok := c.in(""); !ok || len(l) != 0 {
			t.Errorf("%s: nothing: %v, %v", c.name, l, ok)
		}
		for v := range 1 << 16 {
			checkWayBack(t, c, string([]byte{byte(v >> 8)}))
			checkWayBack(t, c, string([]byte{byte(v >> 8), byte(v)}))
		}
		letters := []byte{0, 1, 2, 3, 4, 5, 6, 255}
		for v := range 1 << 18 {
			var s []byte
			for i := range 6 {
				s = append(s, letters[v>>(3*i)&7])
			}
			checkWayBack(t, c, string(s))
		}
	}
}

// P3.1: texts of tuples with some bytes turned, left out or put in.
func TestSpoiltTexts(t *testing.T) {
	next := numbers(3)
	list := tuples()
	spots := []byte{0, 1, 2, 3, 4, 5, 6, 255}
	for _, c := range codes() {
		for range 30000 {
			s, _ := c.out(list[next(len(list))])
			b := []byte(s)
			for range 1 + next(3) {
				where := next(len(b) + 1)
				put := []byte{spots[next(len(spots))]}
				end := min(where+next(3), len(b))
				b = slices.Replace(b, where, end, put[:next(2)]...)
			}
			checkWayBack(t, c, string(b))
		}
	}
}

// R4: what is handed in isn't changed, what is answered is the caller's own.
func TestMemory(t *testing.T) {
	l := []api.Val{num(5), text("a\x00"), raw("z"), {}}
	was := slices.Clone(l)
	for _, c := range codes() {
		s, _ := c.out(l)
		first, _ := c.in(s)
		first[0], first[1] = num(9), text("changed")
		_ = append(first[:2], flag(1))
		if again, ok := c.in(s); !ok || !slices.Equal(again, was) || !slices.Equal(l, was) {
			t.Errorf("%s: %v, %v", c.name, again, l)
		}
		if later, _ := c.out(l); later != s {
			t.Errorf("%s: %x, then %x", c.name, s, later)
		}
	}
	for _, b := range [][]api.Val{{num(5)}, {num(6)}} {
		Compare(l, b)
		Show(l[1])
	}
	if !slices.Equal(l, was) {
		t.Error(l)
	}
}
