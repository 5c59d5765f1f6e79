package seq

import (
	"cmp"
	"iter"
	"slices"
)

// The order of keys is cmp's throughout: it is one of all keys, a float that
// is no number among them, so that what Sorted answers always rises.

// Rises tells whether each key of a run is above the one ahead of it.
func Rises[K cmp.Ordered, V any](s iter.Seq2[K, V]) bool {
	var last K
	first := true
	for k := range orEmpty(s) {
		if !first && !cmp.Less(last, k) {
			return false
		}
		last, first = k, false
	}
	return true
}

// Sorted answers the pairs by rising key, of several of one key the last one
// alone.
func Sorted[K cmp.Ordered, V any](l []Pair[K, V]) []Pair[K, V] {
	pairs := slices.Clone(l)
	// Stable, so that of those of one key the last one stays the last.
	slices.SortStableFunc(pairs, func(a, b Pair[K, V]) int {
		return cmp.Compare(a.Key, b.Key)
	})
	var sorted []Pair[K, V]
	for i, p := range pairs {
		if i+1 == len(pairs) || cmp.Less(p.Key, pairs[i+1].Key) {
			sorted = append(sorted, p)
		}
	}
	return sorted
}

// Within answers, of a run that rises, the pairs whose keys are from from on
// and below to.
func Within[K cmp.Ordered, V any](s iter.Seq2[K, V], from, to K) iter.Seq2[K, V] {
	return func(yield func(K, V) bool) {
		for k, v := range orEmpty(s) {
			// The run rises: behind this key there is nothing below to.
			if !cmp.Less(k, to) {
				return
			}
			if !cmp.Less(k, from) && !yield(k, v) {
				return
			}
		}
	}
}

// Joined answers, of a run and a list that both rise, each key that one of
// them has, rising, with what each has there.
func Joined[K cmp.Ordered, A, B any](a iter.Seq2[K, A], b []Pair[K, B]) []Both[K, A, B] {
	var joined []Both[K, A, B]
	for k, v := range orEmpty(a) {
		// A run that falls might never end, and what is told of it is free:
		// it is left off there.
		if len(joined) > 0 && !cmp.Less(joined[len(joined)-1].Key, k) {
			break
		}
		for len(b) > 0 && cmp.Less(b[0].Key, k) {
			joined = append(joined, rightOnly[K, A](b[0]))
			b = b[1:]
		}
		both := Both[K, A, B]{Key: k, Left: v, HasLeft: true}
		if len(b) > 0 && !cmp.Less(k, b[0].Key) {
			both.Right, both.HasRight = b[0].Val, true
			b = b[1:]
		}
		joined = append(joined, both)
	}
	for _, p := range b {
		joined = append(joined, rightOnly[K, A](p))
	}
	return joined
}

// rightOnly tells of a key that the list alone has.
func rightOnly[K, A, B any](p Pair[K, B]) Both[K, A, B] {
	return Both[K, A, B]{Key: p.Key, Right: p.Val, HasRight: true}
}
