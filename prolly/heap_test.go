package prolly

import (
	"fmt"
	"strings"
	"testing"

	"pleach/api"
	"pleach/chunks"
	"pleach/disk"
	"pleach/seq"
)

// A heap and a store of layer 6 are sources.
var (
	_ Source = (*Heap)(nil)
	_ Source = (*chunks.Store)(nil)
)

func checkGet(t *testing.T, what string, s Source, print, want string, there bool) {
	t.Helper()
	if got, ok := s.Get(print); got != want || ok != there {
		t.Errorf("%s: %.20q, %t; want %.20q, %t", what, got, ok, want, there)
	}
}

// P8.1: NewHeap of none, of some, of one twice, and Put of more.
func TestHeap(t *testing.T) {
	empty := NewHeap()
	checkGet(t, "nothing", empty, sha(""), "", false)
	h := NewHeap("abc", "", "abc", "P\x00\x00")
	for _, text := range []string{"abc", "", "P\x00\x00"} {
		checkGet(t, text, h, sha(text), text, true)
	}
	checkGet(t, "not put", h, sha("new"), "", false)
	long := strings.Repeat("long", api.MaxChunk)
	for _, text := range []string{"new", "abc", "", "new", long} {
		if print, errno := h.Put(text); print != sha(text) || errno != api.OK {
			t.Errorf("%.20q: %x, %d", text, print, errno)
		}
		checkGet(t, "put", h, sha(text), text, true)
	}
	for _, print := range []string{"", "abc", sha("abc")[:31], sha("abc") + "\x00", strings.ToUpper(sha("abc"))} {
		checkGet(t, fmt.Sprintf("%q", print), h, print, "", false)
	}
	checkGet(t, "another heap", empty, sha("new"), "", false)
}

// P8.1: a heap has many chunks, each as it was put.
func TestHeapOfMany(t *testing.T) {
	h := NewHeap()
	for i := range 3000 {
		h.Put(fmt.Sprint("chunk ", i))
	}
	for i := range 3000 {
		text := fmt.Sprint("chunk ", i)
		checkGet(t, text, h, sha(text), text, true)
	}
}

// R4: the list that was handed to NewHeap is as it was, and what becomes of it
// is not the heap's business.
func TestHeapKeepsNoList(t *testing.T) {
	l := []string{"b", "a", "b"}
	h := NewHeap(l...)
	if strings.Join(l, "") != "bab" {
		t.Error(l)
	}
	l[1] = "changed"
	checkGet(t, "a", h, sha("a"), "a", true)
	checkGet(t, "changed", h, sha("changed"), "", false)
}

// R2: of a nil heap all answers are zero values; a Heap that NewHeap didn't
// make is empty.
func TestHeapNothingThere(t *testing.T) {
	var none *Heap
	if print, errno := none.Put("abc"); print != "" || errno != api.OK {
		t.Errorf("%q, %d", print, errno)
	}
	checkGet(t, "nil", none, sha("abc"), "", false)
	var zero Heap
	checkGet(t, "zero", &zero, sha("abc"), "", false)
	if print, errno := zero.Put("abc"); print != sha("abc") || errno != api.OK {
		t.Errorf("%x, %d", print, errno)
	}
	checkGet(t, "zero", &zero, sha("abc"), "abc", true)
}

// P0: of sources that aren't there nothing is found.
func TestNoSource(t *testing.T) {
	var none *Heap
	root := sha("P\x00\x00")
	for what, s := range map[string]Source{"nil": nil, "a nil heap": none, "a nil store": (*chunks.Store)(nil)} {
		if val, there, errno := Find(s, root, ""); val != "" || there || errno != api.ErrLost {
			t.Error(what, val, there, errno)
		}
		if count, errno := Count(s, root); count != 0 || errno != api.ErrLost {
			t.Error(what, count, errno)
		}
		if l, errno := Nodes(s, root); len(l) != 0 || errno != api.ErrLost {
			t.Error(what, l, errno)
		}
		for range All(s, root) {
			t.Error(what)
		}
		for range Range(s, root, "", "z") {
			t.Error(what)
		}
	}
}

// liar is a source that has each text, and says of some that it isn't there.
type liar struct {
	shelf
	hides string
}

func (l liar) Get(print string) (string, bool) {
	return l.shelf[print], print != l.hides
}

// P8.1: what a source doesn't find isn't there, whatever else it answers.
func TestNotFoundWithBytes(t *testing.T) {
	top := grown(mapOf(40))
	leaves, _ := top.leaves()
	for _, bad := range []*tree{top, top.kids[0], leaves[0], leaves[len(leaves)-1]} {
		s := liar{shelf: top.source(), hides: bad.print()}
		checkFind(t, "hidden", s, top, bad, bad.last())
		checkSame(t, "All", seq.List(All(s, top.print())), wantRange(top, bad, "", aboveAll))
		if l, errno := Nodes(s, top.print()); len(l) != 0 || errno != api.ErrLost {
			t.Error(l, errno)
		}
		if _, errno := Count(s, top.print()); (errno == api.ErrLost) != (bad == top) {
			t.Error(errno)
		}
	}
}

// P8.1: a map in a store, read from it behind a fall.
func TestMapInAStore(t *testing.T) {
	d, _ := disk.New(1 << 20)
	store, _ := chunks.Open(d)
	l := mapOf(100)
	root, nodes, _ := Build(l)
	for _, text := range nodes {
		store.Put(text)
	}
	if errno := store.Commit(root); errno != api.OK {
		t.Fatal(errno)
	}
	d.Fall(nil)
	store, errno := chunks.Open(d)
	if errno != api.OK {
		t.Fatal(errno)
	}
	var got []pair
	for key, val := range All(store, store.Root()) {
		got = append(got, pair{Key: key, Val: val})
	}
	checkSame(t, "All", got, l)
	if val, there, errno := Find(store, root, l[42].Key); val != l[42].Val || !there || errno != api.OK {
		t.Error(val, there, errno)
	}
}
