package seq

import (
	"fmt"
	"iter"
	"math"
	"slices"
	"sort"
	"testing"
)

// lists answers all lists of at most most pairs with keys below keys, their
// values telling where in the list they stand.
func lists(keys, most int) [][]pair {
	all := [][]pair{nil}
	for from, n := 0, 0; n < most; n++ {
		end := len(all)
		for _, l := range all[from:end] {
			for k := range keys {
				all = append(all, append(slices.Clone(l), pair{k, fmt.Sprint(k, "@", len(l))}))
			}
		}
		from = end
	}
	return all
}

// rising answers all lists that rise with keys below keys, every key with the
// name as a part of its value.
func rising(keys int, name string) [][]pair {
	var all [][]pair
	for set := range 1 << keys {
		l := []pair{}
		for k := range keys {
			if set>>k&1 == 1 {
				l = append(l, pair{k, fmt.Sprint(name, k)})
			}
		}
		all = append(all, l)
	}
	return all
}

// P2.1: Rises, of all short lists.
func TestRisesAllShort(t *testing.T) {
	for _, l := range lists(4, 5) {
		want := true
		for i := 1; i < len(l); i++ {
			want = want && l[i-1].Key < l[i].Key
		}
		if got := Rises(Of(l)); got != want {
			t.Errorf("Rises %v: %v", l, got)
		}
	}
}

// P2.1: Rises at the least keys of a type, of texts in the order of bytes,
// and of a run that never ends but falls.
func TestRisesEdges(t *testing.T) {
	if !Rises(Of([]Pair[int8, int]{{-128, 0}, {-127, 0}, {0, 0}, {127, 0}})) {
		t.Error("int8")
	}
	if Rises(Of([]Pair[int8, int]{{127, 0}, {-128, 0}})) || Rises(Of([]Pair[uint, int]{{0, 1}, {0, 2}})) {
		t.Error("falls, or stays")
	}
	texts := []Pair[string, int]{{"", 0}, {"\x00", 0}, {"Z", 0}, {"a", 0}, {"a\x00", 0}, {"aa", 0}, {"\x7f", 0}, {"\x80", 0}, {"ä", 0}, {"\xff", 0}}
	if !Rises(Of(texts)) {
		t.Error("texts")
	}
	for i := 1; i < len(texts); i++ {
		if Rises(Of([]Pair[string, int]{texts[i], texts[i-1]})) {
			t.Errorf("%q above %q", texts[i-1].Key, texts[i].Key)
		}
	}
	stays := func(yield func(int, bool) bool) {
		for yield(7, true) {
		}
	}
	if Rises(stays) {
		t.Error("a run of one key")
	}
}

// P2.1: the chapter's example.
func TestSortedExample(t *testing.T) {
	l := []pair{{2, "a"}, {1, "b"}, {2, "c"}}
	if got := told(Sorted(l)); got != "1:b 2:c" {
		t.Error(got)
	}
	if told(l) != "2:a 1:b 2:c" {
		t.Error("changed: ", l)
	}
}

// P2.1: Sorted, of all short lists: each key of the list, rising, with the
// last of its values; the list stays as it was.
func TestSortedAllShort(t *testing.T) {
	for _, l := range lists(4, 5) {
		last := map[int]string{}
		for _, p := range l {
			last[p.Key] = p.Val
		}
		var want []pair
		for k := range 4 {
			if v, ok := last[k]; ok {
				want = append(want, pair{k, v})
			}
		}
		was := slices.Clone(l)
		got := Sorted(l)
		if !slices.Equal(got, want) || !Rises(Of(got)) {
			t.Errorf("Sorted %v: %v", l, got)
		}
		if !slices.Equal(l, was) {
			t.Errorf("changed: %v, was %v", l, was)
		}
	}
}

// P2.1: Sorted of many pairs with few keys, too many for a sort of small
// lists, in which those of one key must keep their order.
func TestSortedMany(t *testing.T) {
	const many, keys = 5000, 37
	var l []Pair[string, int]
	for i := range many {
		l = append(l, Pair[string, int]{fmt.Sprint("k", i*i%keys), i})
	}
	got := Sorted(l)
	last := map[string]int{}
	for _, p := range l {
		last[p.Key] = p.Val
	}
	var names []string
	for k := range last {
		names = append(names, k)
	}
	sort.Strings(names)
	if len(got) != len(names) {
		t.Fatal(len(got), len(names))
	}
	for i, k := range names {
		if got[i].Key != k || got[i].Val != last[k] {
			t.Errorf("%d: %v, want %s:%d", i, got[i], k, last[k])
		}
	}
}

// P2.1: what Sorted answers is the caller's own, of a list that was sorted
// already too.
func TestSortedOwnMemory(t *testing.T) {
	l := letters(3)
	got := Sorted(l)
	got[0].Val = "changed"
	_ = append(got[:0], pair{7, "changed"}, pair{8, "changed"})
	if told(l) != "0:a 1:b 2:c" {
		t.Error(l)
	}
	if len(Sorted[int, string](nil)) != 0 || len(Sorted([]pair{})) != 0 {
		t.Error("of nothing")
	}
}

// P2.1: floats that are no numbers have a place in the order, one for all of
// them, so that what Sorted answers rises.
func TestNoNumber(t *testing.T) {
	nan, inf := math.NaN(), math.Inf(1)
	l := []Pair[float64, string]{{1, "a"}, {nan, "b"}, {-inf, "c"}, {0, "d"}, {nan, "e"}, {math.Copysign(0, -1), "f"}, {inf, "g"}}
	got := Sorted(l)
	var vals string
	for _, p := range got {
		vals += p.Val
	}
	if vals != "ecfag" || !Rises(Of(got)) {
		t.Error(got)
	}
	if got := List(Within(Of(got), -inf, inf)); len(got) != 3 {
		t.Error(got)
	}
	if both := Joined(Of(got), got); len(both) != len(got) {
		t.Error(both)
	}
}

// P2.1: Within, of all short runs that rise, at all bounds.
func TestWithinAllShort(t *testing.T) {
	for _, l := range rising(5, "v") {
		for from := -1; from <= 6; from++ {
			for to := -1; to <= 6; to++ {
				var want []pair
				for _, p := range l {
					if from <= p.Key && p.Key < to {
						want = append(want, p)
					}
				}
				s := Within(Of(l), from, to)
				if got := List(s); !slices.Equal(got, want) || !slices.Equal(List(s), want) {
					t.Errorf("Within %v from %d to %d: %v", l, from, to, got)
				}
			}
		}
	}
}

// P2.1: where from is not below to there is nothing.
func TestWithinNothing(t *testing.T) {
	s := Of([]Pair[string, int]{{"", 1}, {"a", 2}, {"b", 3}})
	for _, bounds := range [][2]string{{"", ""}, {"a", "a"}, {"b", "a"}, {"a", ""}, {"c", "d"}} {
		checkTold(t, fmt.Sprint(bounds), Within(s, bounds[0], bounds[1]), "")
	}
	checkTold(t, "the empty key", Within(s, "", "\x00"), ":1")
	checkTold(t, "up to a key that isn't there", Within(s, "a", "aa"), "a:2")
}

// P2.1: a run that rises without end is gone through no further than to the
// first key that isn't below to.
func TestWithinEndless(t *testing.T) {
	checkTold(t, "endless", Within(endless, 2, 4), "2:v2 3:v3")
	checkTold(t, "endless, from above to", Within(endless, 4, 2), "")
	asked := 0
	if got := told(List(Within(watched(letters(9), &asked), 1, 3))); got != "1:b 2:c" || asked != 4 {
		t.Error(got, asked)
	}
}

// P2.1: of a run that doesn't rise Within tells some of its pairs.
func TestWithinNotRising(t *testing.T) {
	for _, l := range lists(3, 4) {
		for from := range 4 {
			for to := range 4 {
				for _, p := range List(Within(Of(l), from, to)) {
					if !slices.Contains(l, p) {
						t.Errorf("Within %v from %d to %d: %v", l, from, to, p)
					}
				}
			}
		}
	}
}

// wantJoined is the plain way to what Joined answers: key by key.
func wantJoined(a, b []pair, keys int) []Both[int, string, string] {
	var want []Both[int, string, string]
	for k := range keys {
		both := Both[int, string, string]{Key: k}
		for _, p := range a {
			if p.Key == k {
				both.Left, both.HasLeft = p.Val, true
			}
		}
		for _, p := range b {
			if p.Key == k {
				both.Right, both.HasRight = p.Val, true
			}
		}
		if both.HasLeft || both.HasRight {
			want = append(want, both)
		}
	}
	return want
}

// P2.1: Joined, of all short runs and lists that rise: with nothing on one
// side, keys on one side alone, and keys that both have.
func TestJoinedAllShort(t *testing.T) {
	for _, a := range rising(5, "a") {
		for _, b := range rising(5, "b") {
			wasA, wasB := slices.Clone(a), slices.Clone(b)
			got := Joined(Of(a), b)
			if want := wantJoined(a, b, 5); !slices.Equal(got, want) {
				t.Errorf("Joined %v and %v: %v, want %v", a, b, got, want)
			}
			if !slices.Equal(a, wasA) || !slices.Equal(b, wasB) {
				t.Errorf("changed: %v and %v", a, b)
			}
		}
	}
}

// P2.1: the sides have types of their own, and a zero value that is there
// isn't taken for one that isn't.
func TestJoinedTypes(t *testing.T) {
	a := Of([]Pair[string, float64]{{"", 0}, {"b", 1.5}})
	b := []Pair[string, []int]{{"", nil}, {"a", []int{1}}, {"c", nil}}
	want := "[{ 0 [] true true} {a 0 [1] false true} {b 1.5 [] true false} {c 0 [] false true}]"
	if got := fmt.Sprint(Joined(a, b)); got != want {
		t.Error(got)
	}
	if got := Joined(Of[string, int](nil), []Pair[string, bool](nil)); len(got) != 0 {
		t.Error(got)
	}
}

// P2.1: of runs and lists that don't rise Joined tells something, and ends.
func TestJoinedNotRising(t *testing.T) {
	short := lists(3, 3)
	for _, a := range short {
		for _, b := range short {
			Joined(Of(a), b)
		}
	}
	var stays iter.Seq2[int, string] = func(yield func(int, string) bool) {
		for yield(7, "again") {
		}
	}
	for _, b := range short {
		Joined(stays, b)
	}
	Joined(stays, []pair{{9, "x"}, {7, "y"}, {7, "z"}})
}
