package seq

import (
	"fmt"
	"iter"
	"slices"
	"strings"
	"testing"
)

type pair = Pair[int, string]

// told writes the pairs of a list of any types: "1:a 2:b".
func told[K, V any](l []Pair[K, V]) string {
	var words []string
	for _, p := range l {
		words = append(words, fmt.Sprintf("%v:%v", p.Key, p.Val))
	}
	return strings.Join(words, " ")
}

// checkTold holds the pairs of a run against a text, twice: a run can be gone
// through any number of times.
func checkTold[K, V any](t *testing.T, what string, s iter.Seq2[K, V], want string) {
	t.Helper()
	for range 2 {
		if got := told(List(s)); got != want {
			t.Errorf("%s: %q, want %q", what, got, want)
		}
	}
}

// watched is a run through a list that counts how many pairs were asked for,
// what is behind the last one counting as one more.
func watched[K, V any](l []Pair[K, V], asked *int) iter.Seq2[K, V] {
	return func(yield func(K, V) bool) {
		for _, p := range l {
			*asked++
			if !yield(p.Key, p.Val) {
				return
			}
		}
		*asked++
	}
}

// endless is a run of 0, 1, 2 and so on that never ends by itself.
func endless(yield func(int, string) bool) {
	for n := 0; ; n++ {
		if !yield(n, fmt.Sprint("v", n)) {
			return
		}
	}
}

// leaveOff goes through n pairs of a run and leaves it off, and fails if the
// run goes further.
func leaveOff[K, V any](t *testing.T, s iter.Seq2[K, V], n int) []Pair[K, V] {
	t.Helper()
	var got []Pair[K, V]
	left := false
	s(func(k K, v V) bool {
		if left {
			t.Errorf("the run went on to %v:%v behind being left off", k, v)
			return false
		}
		got = append(got, Pair[K, V]{Key: k, Val: v})
		left = len(got) >= n
		return !left
	})
	return got
}

func letters(n int) []pair {
	var l []pair
	for i := range n {
		l = append(l, pair{Key: i, Val: string(rune('a' + i))})
	}
	return l
}

// P2.1: Of and List, of lists of many lengths, and of lists whose keys don't
// rise, are one another's ways back.
func TestOfAndList(t *testing.T) {
	checkTold(t, "nil", Of[int, string](nil), "")
	checkTold(t, "empty", Of([]pair{}), "")
	for n := range 20 {
		l := letters(n)
		if got := List(Of(l)); !slices.Equal(got, l) {
			t.Errorf("%d pairs: %v", n, got)
		}
	}
	checkTold(t, "not rising", Of([]pair{{3, "x"}, {1, ""}, {3, "x"}, {2, "z"}}), "3:x 1: 3:x 2:z")
	checkTold(t, "other types", Of([]Pair[string, bool]{{"", true}, {"b", false}}), ":true b:false")
	checkTold(t, "keys without an order", Of([]Pair[[2]bool, any]{{[2]bool{true}, nil}}), "[true false]:<nil>")
}

// P2.1: a run isn't changed by what becomes of the list that it is of, and a
// list that is answered is the caller's own.
func TestOfAndListKeepNothing(t *testing.T) {
	l := letters(3)
	s := Of(l)
	l[1] = pair{9, "changed"}
	checkTold(t, "Of", s, "0:a 1:b 2:c")
	got := List(s)
	got[0].Val = "changed"
	_ = append(got[:1], pair{8, "changed"})
	checkTold(t, "List", s, "0:a 1:b 2:c")
}

// P2.1: what is changed in the list while a run is gone through isn't seen.
func TestOfListChangedWithin(t *testing.T) {
	l := letters(3)
	var got []string
	for _, v := range Of(l) {
		got = append(got, v)
		l[2].Val = "changed"
	}
	if strings.Join(got, "") != "abc" {
		t.Error(got)
	}
}

// P2.1: Head of numbers below, at and beyond what there is.
func TestHead(t *testing.T) {
	const most = int(^uint(0) >> 1)
	s := Of(letters(3))
	for _, n := range []int{-most - 1, -7, -1, 0} {
		checkTold(t, fmt.Sprint("Head ", n), Head(s, n), "")
	}
	checkTold(t, "Head 1", Head(s, 1), "0:a")
	checkTold(t, "Head 2", Head(s, 2), "0:a 1:b")
	for _, n := range []int{3, 4, 1000, most} {
		checkTold(t, fmt.Sprint("Head ", n), Head(s, n), "0:a 1:b 2:c")
	}
	for _, n := range []int{-1, 0, 1, most} {
		checkTold(t, "Head of the empty run", Head(Of([]pair{}), n), "")
	}
	checkTold(t, "Head of Head", Head(Head(s, 2), 5), "0:a 1:b")
	checkTold(t, "Head of Head", Head(Head(s, 2), 1), "0:a")
}

// P2.2: Head asks for as many pairs as it tells and not for one more, each
// time that it is gone through.
func TestHeadAsksNoMore(t *testing.T) {
	for have := range 6 {
		for n := -2; n <= have; n++ {
			asked := 0
			s := Head(watched(letters(have), &asked), n)
			for round := 1; round <= 3; round++ {
				got := List(s)
				if want := max(n, 0); len(got) != want || asked != round*want {
					t.Errorf("Head %d of %d, round %d: %d pairs, %d asked for", n, have, round, len(got), asked)
				}
			}
		}
	}
}

// P2.2: Head of a run that never ends does; of none of its pairs it doesn't
// even begin.
func TestHeadOfEndless(t *testing.T) {
	checkTold(t, "Head 3", Head(endless, 3), "0:v0 1:v1 2:v2")
	begun := false
	s := Head(func(yield func(int, string) bool) { begun = true }, 0)
	checkTold(t, "Head 0", s, "")
	if begun {
		t.Error("Head 0 began the run")
	}
}

// P2.2: nor do the functions behind Head do more than its pairs need.
func TestHeadThroughOthers(t *testing.T) {
	asked, kept, made := 0, 0, 0
	s := watched(letters(9), &asked)
	odd := Only(s, func(k int, _ string) bool { kept++; return k%2 == 1 })
	loud := Made(odd, func(_ int, v string) string { made++; return v + "!" })
	got := told(List(Head(Within(loud, 2, 8), 2)))
	if got != "3:d! 5:f!" || asked != 6 || kept != 6 || made != 3 {
		t.Error(got, asked, kept, made)
	}
}

// P2.1: each run that a call answers goes no further than to where it is left
// off, and asks what it is of for no more.
func TestLeftOffEarly(t *testing.T) {
	l := letters(6)
	all := func(int, string) bool { return true }
	same := func(_ int, v string) string { return v }
	runs := map[string]func(iter.Seq2[int, string]) iter.Seq2[int, string]{
		"Head":   func(s iter.Seq2[int, string]) iter.Seq2[int, string] { return Head(s, 5) },
		"Only":   func(s iter.Seq2[int, string]) iter.Seq2[int, string] { return Only(s, all) },
		"Made":   func(s iter.Seq2[int, string]) iter.Seq2[int, string] { return Made(s, same) },
		"Within": func(s iter.Seq2[int, string]) iter.Seq2[int, string] { return Within(s, 0, 9) },
	}
	for name, run := range runs {
		for n := 1; n <= 4; n++ {
			asked := 0
			got := leaveOff(t, run(watched(l, &asked)), n)
			if !slices.Equal(got, l[:n]) || asked != n {
				t.Errorf("%s left off behind %d: %v, %d asked for", name, n, got, asked)
			}
		}
	}
	for n := 1; n <= 4; n++ {
		if got := leaveOff(t, Of(l), n); !slices.Equal(got, l[:n]) {
			t.Errorf("Of left off behind %d: %v", n, got)
		}
	}
}

// P2.1: a run that was left off begins anew the next time.
func TestLeftOffAndAgain(t *testing.T) {
	s := Head(Made(Only(Of(letters(5)), func(k int, _ string) bool { return k != 1 }), func(k int, v string) string { return v + v }), 3)
	for range 2 {
		if got := told(leaveOff(t, s, 2)); got != "0:aa 2:cc" {
			t.Error(got)
		}
		checkTold(t, "again", s, "0:aa 2:cc 3:dd")
	}
}

// P2.1: a run that is gone through while it is being gone through.
func TestRunWithinItself(t *testing.T) {
	s := Head(Of(letters(4)), 3)
	var got strings.Builder
	for _, v := range s {
		for _, w := range s {
			got.WriteString(v + w + " ")
		}
	}
	if got.String() != "aa ab ac ba bb bc ca cb cc " {
		t.Error(got.String())
	}
}

// P2.1: Only keeps what is to be kept, in the order of the run, and hands
// keep each pair once.
func TestOnly(t *testing.T) {
	s := Of([]pair{{5, "a"}, {2, "b"}, {5, "c"}, {1, "b"}})
	var seen []pair
	byBoth := Only(s, func(k int, v string) bool {
		seen = append(seen, pair{k, v})
		return k == 5 || v == "b" && k < 2
	})
	if got := told(List(byBoth)); got != "5:a 5:c 1:b" || told(seen) != "5:a 2:b 5:c 1:b" {
		t.Error(got, seen)
	}
	checkTold(t, "none", Only(s, func(int, string) bool { return false }), "")
	checkTold(t, "all", Only(s, func(int, string) bool { return true }), "5:a 2:b 5:c 1:b")
	checkTold(t, "of nothing", Only(Of([]pair{}), func(int, string) bool { return true }), "")
}

// P2.1: Made tells each key with what is made of both, key and value, once a
// pair, and makes nothing ahead of being asked.
func TestMade(t *testing.T) {
	times := 0
	s := Made(Of([]pair{{2, "ab"}, {2, ""}, {-1, "x"}}), func(k int, v string) int { times++; return k * len(v) })
	if times != 0 {
		t.Error("made ahead of being asked")
	}
	if got := told(List(s)); got != "2:4 2:0 -1:-1" || times != 3 {
		t.Error(got, times)
	}
	checkTold(t, "other types", Made(Of([]Pair[string, int]{{"k", 3}}), func(k string, n int) []string {
		return []string{strings.Repeat(k, n)}
	}), "k:[kkk]")
	checkTold(t, "of nothing", Made(Of([]pair{}), func(int, string) int { return 1 }), "")
}

// P0: runs and functions that aren't there.
func TestNothingThere(t *testing.T) {
	var none iter.Seq2[int, string]
	yes := func(int, string) bool { return true }
	checkTold(t, "List", none, "")
	checkTold(t, "Head", Head(none, 3), "")
	checkTold(t, "Only", Only(none, yes), "")
	checkTold(t, "Made", Made(none, yes), "")
	checkTold(t, "Within", Within(none, 0, 9), "")
	if !Rises(none) {
		t.Error("Rises")
	}
	if got := Joined(none, []pair{}); len(got) != 0 {
		t.Error(got)
	}
	if got := fmt.Sprint(Joined(none, letters(1))); got != "[{0  a false true}]" {
		t.Error(got)
	}
	checkTold(t, "no keep", Only(Of(letters(2)), nil), "")
	checkTold(t, "no make", Made[int, string, bool](Of(letters(2)), nil), "0:false 1:false")
	checkTold(t, "no keep, no run", Only(none, nil), "")
	checkTold(t, "no make, no run", Made[int, string, bool](none, nil), "")
}
