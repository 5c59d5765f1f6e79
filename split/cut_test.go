package split

import (
	"math/rand/v2"
	"slices"
	"strconv"
	"strings"
	"testing"
)

// cut is the chapter's words once more, part by part: the part's end is the
// first place at which it may be, or the list's.
func cut(items []string) []int {
	var parts []int
	for len(items) > 0 {
		n := 1
		for n < len(items) && n != 16 && !(n >= 2 && ends(items[n-1])) {
			n++
		}
		parts = append(parts, n)
		items = items[n:]
	}
	return parts
}

// maker makes items that end a part, or don't, each of which is new.
type maker struct {
	next int
}

func (m *maker) item(ending bool) string {
	for {
		m.next++
		if item := "item" + strconv.Itoa(m.next); ends(item) == ending {
			return item
		}
	}
}

// list answers a list of unlike items: one that ends a part for each E of the
// form, one that doesn't for each other byte.
func list(form string) []string {
	var m maker
	var items []string
	for i := range len(form) {
		items = append(items, m.item(form[i] == 'E'))
	}
	return items
}

func checkCut(t *testing.T, items []string, want ...int) {
	t.Helper()
	if got := Cut(items); !slices.Equal(got, want) {
		t.Errorf("Cut of %d items %.60q: %v, want %v", len(items), items, got, want)
	}
}

func checkForm(t *testing.T, form string, want ...int) {
	t.Helper()
	if got := Cut(list(form)); !slices.Equal(got, want) {
		t.Errorf("Cut of %s: %v, want %v", form, got, want)
	}
}

func none(n int) string {
	return strings.Repeat(".", n)
}

func each(n int) string {
	return strings.Repeat("E", n)
}

// P7.1: the chapter's example, whether the item ends a part or not; and the
// lists that have no part.
func TestCutOneAndNone(t *testing.T) {
	checkForm(t, ".", 1)
	checkForm(t, "E", 1)
	checkCut(t, []string{""}, 1)
	checkCut(t, nil)
	checkCut(t, []string{})
	checkCut(t, list("E.E")[:0])
}

// P7.1: MinItems: an item that ends a part does so as the second one of it,
// and not as the first.
func TestCutMinItems(t *testing.T) {
	for _, form := range []string{"..", "E.", ".E", "EE"} {
		checkForm(t, form, 2)
	}
	checkForm(t, "...", 3)
	checkForm(t, "..E", 3)
	checkForm(t, "E..", 3)
	checkForm(t, "E.E", 3)
	checkForm(t, ".E.", 2, 1)
	checkForm(t, ".EE", 2, 1)
	checkForm(t, "EE.", 2, 1)
	checkForm(t, "EEE", 2, 1)
	checkForm(t, ".EE.", 2, 2)
	checkForm(t, ".EE..", 2, 3)
	checkForm(t, ".EE.E", 2, 3)
	checkForm(t, ".E.E", 2, 2)
	checkForm(t, "E.E.E", 3, 2)
}

// P7.1: MaxItems: where no item ends a part, each but the last one has 16.
func TestCutNoneEnds(t *testing.T) {
	checkForm(t, none(15), 15)
	checkForm(t, none(16), 16)
	checkForm(t, none(17), 16, 1)
	checkForm(t, none(31), 16, 15)
	checkForm(t, none(32), 16, 16)
	checkForm(t, none(33), 16, 16, 1)
	checkForm(t, none(1000), append(slices.Repeat([]int{16}, 62), 8)...)
}

// P7.1: where each item ends a part, each but the last one has 2.
func TestCutEachEnds(t *testing.T) {
	for n := range 40 {
		want := slices.Repeat([]int{2}, n/2)
		if n%2 == 1 {
			want = append(want, 1)
		}
		checkForm(t, each(n), want...)
	}
}

// P7.1: where only the first item of a part would end one, it ends none.
func TestCutFirstEnds(t *testing.T) {
	checkForm(t, "E"+none(14), 15)
	checkForm(t, "E"+none(15), 16)
	checkForm(t, "E"+none(16), 16, 1)
	checkForm(t, "E"+none(15)+"E"+none(15), 16, 16)
	checkForm(t, "E"+none(15)+"E"+none(15)+"E", 16, 16, 1)
	checkForm(t, ".EE"+none(15), 2, 16)
	checkForm(t, ".EE"+none(16), 2, 16, 1)
}

// P7.1: one item that ends a part, at each place of a list.
func TestCutOneEnds(t *testing.T) {
	checkForm(t, none(14)+"E", 15)
	checkForm(t, none(14)+"E.", 15, 1)
	checkForm(t, none(15)+"E", 16)
	checkForm(t, none(15)+"E.", 16, 1)
	checkForm(t, none(16)+"E", 16, 1)
	checkForm(t, none(16)+"E.", 16, 2)
	checkForm(t, none(16)+"E"+none(16), 16, 16, 1)
	checkForm(t, none(17)+"E.", 16, 2, 1)
	for size := 1; size <= 50; size++ {
		for at := range size {
			items := list(none(at) + "E" + none(size-at-1))
			checkCut(t, items, cut(items)...)
		}
	}
}

// P7.1: all forms of up to 10 items, from a list's beginning on and about the
// end of a part of 16.
func TestCutAllForms(t *testing.T) {
	var m maker
	var ending, plain []string
	for range 40 {
		ending, plain = append(ending, m.item(true)), append(plain, m.item(false))
	}
	for _, ahead := range []int{0, 9} {
		for size := range 11 {
			for form := range 1 << size {
				items := slices.Clone(plain[:ahead])
				for i := range size {
					items = append(items, [][]string{plain, ending}[form>>i&1][ahead+i])
				}
				checkCut(t, items, cut(items)...)
			}
		}
	}
}

// P7.1: items that are the same, and lists of a few that come again and again.
func TestCutSame(t *testing.T) {
	var m maker
	ending, plain := m.item(true), m.item(false)
	checkCut(t, slices.Repeat([]string{plain}, 40), 16, 16, 8)
	checkCut(t, slices.Repeat([]string{ending}, 5), 2, 2, 1)
	checkCut(t, slices.Repeat([]string{""}, 33), 16, 16, 1)
	checkCut(t, slices.Repeat([]string{ending, plain}, 4), 3, 2, 2, 1)
	checkCut(t, slices.Repeat([]string{plain, plain, ending}, 3), 3, 3, 3)
	checkCut(t, slices.Repeat([]string{plain, ending, ending}, 3), 2, 3, 3, 1)
}

// someLists answers lists of many lengths, in which few, some or many items
// end a part, some of them the same.
func someLists() [][]string {
	r := rand.New(rand.NewPCG(7, 1))
	var m maker
	var lists [][]string
	for round := range 300 {
		var items []string
		for range r.IntN(120) {
			if len(items) > 0 && r.IntN(5) == 0 {
				items = append(items, items[r.IntN(len(items))])
				continue
			}
			items = append(items, m.item(r.IntN(12) < round%13))
		}
		lists = append(lists, items)
	}
	for _, n := range []int{500, 3000} {
		var items []string
		for i := range n {
			items = append(items, strconv.Itoa(i)+strings.Repeat("\x00", i%300))
		}
		lists = append(lists, items)
	}
	return lists
}

// P7.1: many lists, held against the chapter's words.
func TestCutSomeLists(t *testing.T) {
	for _, items := range someLists() {
		checkCut(t, items, cut(items)...)
	}
}

// P7.2: each part but the last one has from 2 to 16 items, the last one 1 to
// 16, and all of them together the list's.
func TestCutSizes(t *testing.T) {
	for _, items := range someLists() {
		parts := Cut(items)
		sum := 0
		for i, n := range parts {
			if n > 16 || n < 1 || n < 2 && i < len(parts)-1 {
				t.Errorf("%d items, part %d of %d has %d", len(items), i, len(parts), n)
			}
			sum += n
		}
		if sum != len(items) {
			t.Errorf("%d items, %d in the parts", len(items), sum)
		}
	}
}

// P7.1: each part is as great as may be: it goes on till an item must end it.
func TestCutGreatest(t *testing.T) {
	for _, items := range someLists() {
		parts := Cut(items)
		at := 0
		for i, n := range parts {
			part := items[at : at+n]
			if n > 2 && slices.ContainsFunc(part[1:n-1], ends) {
				t.Errorf("%d items, part %d goes on behind an item that ends it", len(items), i)
			}
			if i < len(parts)-1 && n < 16 && !ends(part[n-1]) {
				t.Errorf("%d items, part %d of %d items ends behind one that doesn't end it", len(items), i, n)
			}
			at += n
		}
	}
}

// P7.2: behind a part the rest is cut as a list of its own.
func TestCutRest(t *testing.T) {
	for _, items := range someLists() {
		parts := Cut(items)
		at := 0
		for i, n := range parts {
			checkCut(t, items[at:], parts[i:]...)
			at += n
		}
	}
}

// P7.2: what stands behind a part changes nothing of it, nor of those ahead of
// it: whatever it is, it is cut as it would be alone.
func TestCutBehind(t *testing.T) {
	var behind [][]string
	for _, form := range []string{"", ".", "E", "..", "EE", none(17), each(17), "E" + none(16), ".E" + none(20) + "E"} {
		behind = append(behind, list(form))
	}
	for _, items := range someLists()[:150] {
		parts := Cut(items)
		at := 0
		for i := range max(0, len(parts)-1) {
			at += parts[i]
			for _, tail := range behind {
				want := slices.Concat(parts[:i+1], cut(tail))
				checkCut(t, slices.Concat(items[:at], tail), want...)
			}
		}
	}
}

// P7.2: a list that is cut off somewhere has the parts that it had, up to
// there: the last one is what is left.
func TestCutShorter(t *testing.T) {
	for _, items := range someLists()[:60] {
		parts := Cut(items)
		for size := range items {
			var want []int
			left := size
			for i := 0; left > 0; i++ {
				n := min(left, parts[i])
				want = append(want, n)
				left -= n
			}
			checkCut(t, items[:size], want...)
		}
	}
}

// P0: a long list, long items, and bytes of any kind.
func TestCutLong(t *testing.T) {
	long := slices.Repeat([]string{"", "\x00", "\xff\xfe", "item117", "item89"}, 40000)
	checkCut(t, long, cut(long)...)
	great := make([]string, 20)
	for i := range great {
		great[i] = strings.Repeat(string([]byte{byte(13 * i)}), 100000+i)
	}
	checkCut(t, great, cut(great)...)
}

// R4: the list is as it was, and so is what lies behind it; two answers share
// no memory. R7: each answer is the same.
func TestCutMemory(t *testing.T) {
	all := list(each(9) + none(40) + each(3))
	kept := slices.Clone(all)
	first := Cut(all[:30])
	second := Cut(all[:30])
	if !slices.Equal(all, kept) {
		t.Error("Cut changes the list")
	}
	if !slices.Equal(first, second) {
		t.Errorf("Cut: %v, then %v", first, second)
	}
	for i := range first {
		first[i] = -1
	}
	_ = append(first[:0], -2, -3)
	if !slices.Equal(second, cut(all[:30])) || !slices.Equal(Cut(all[:30]), second) {
		t.Error("two answers share memory")
	}
	answer := Cut(all)
	all[0], all[1], all[20] = "", "", ""
	if !slices.Equal(answer, cut(kept)) {
		t.Error("an answer hangs on the list that was handed in")
	}
}
