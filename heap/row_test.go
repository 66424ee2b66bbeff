package heap

import (
	"slices"
	"strconv"
	"testing"
)

// row is a heap as plainly as can be: the keys with their ranks, in the order in which they came to have them.
type row []pair[string]

func (r *row) remove(key string) bool {
	at := slices.IndexFunc(*r, func(p pair[string]) bool { return p.key == key })
	if at < 0 {
		return false
	}
	*r = slices.Delete(*r, at, at+1)
	return true
}

func (r *row) set(key string, rank Rank) {
	r.remove(key)
	*r = append(*r, pair[string]{key, rank})
}

// sorted takes, again and again, the first one that no other one is less than.
func (r *row) sorted() []pair[string] {
	left, out := slices.Clone(*r), []pair[string]{}
	for len(left) > 0 {
		best := 0
		for i, p := range left {
			b := left[best].rank
			if p.rank.One < b.One || p.rank.One == b.One && p.rank.Two < b.Two {
				best = i
			}
		}
		out = append(out, left[best])
		left = slices.Delete(left, best, best+1)
	}
	return out
}

func (r *row) pop() (string, bool) {
	if len(*r) == 0 {
		return "", false
	}
	key := r.sorted()[0].key
	r.remove(key)
	return key, true
}

// step does one of the changes with both, and tells whether they answer the same.
func step(h *Heap[string], r *row, kind uint64, key string, rank Rank) bool {
	switch {
	case kind < 12:
		h.Set(key, rank)
		r.set(key, rank)
	case kind < 16:
		return h.Remove(key) == r.remove(key)
	case kind < 19:
		got, ok := h.Pop()
		want, some := r.pop()
		return got == want && ok == some
	}
	return true
}

// keyOf lets 0 be the empty key.
func keyOf(n uint64) string {
	if n == 0 {
		return ""
	}
	return strconv.FormatUint(n, 10)
}

// P4.1, P4.2: a long run of changes, of few keys and of many, of few ranks and of many, leaves what the plain row says.
func TestAgainstRow(t *testing.T) {
	for _, kinds := range []uint64{1, 2, 3, 7, 20, 90} {
		for _, ranks := range []int{1, 2, 4, 50} {
			againstRow(t, kinds, ranks)
		}
	}
}

func againstRow(t *testing.T, kinds uint64, ranks int) {
	h, r, x := New[string](), &row{}, kinds+uint64(ranks)<<8
	for i := range 1500 {
		x = x*6364136223846793005 + 1442695040888963407
		key := keyOf(x >> 40 % kinds)
		rank := Rank{int(x>>20%64)%ranks - ranks/2, int(x>>26%64)%ranks - ranks/2}
		name := strconv.FormatUint(kinds, 10) + " keys, " + strconv.Itoa(ranks) + " ranks, step " + strconv.Itoa(i)
		if !step(h, r, x>>33%20, key, rank) {
			t.Fatalf("%s: the answers of %q differ", name, key)
		}
		check(t, name, h, r.sorted()...)
		if t.Failed() {
			return
		}
	}
	want := h.Order()
	if got := popAll(h); !slices.Equal(got, want) {
		t.Errorf("popped %q; the order was %q", got, want)
	}
}

// P4.2: Pop tells the Order of a great heap, half of which was set again or removed.
func TestManyKeys(t *testing.T) {
	const many = 100000
	h := New[int]()
	for i := range many {
		h.Set(i, Rank{i * 7919 % 1000, i % 3})
	}
	for i := range many {
		switch i % 4 {
		case 1:
			h.Set(i, Rank{i * 104729 % 1000, 1})
		case 3:
			h.Remove(i)
		}
	}
	order := h.Order()
	for i := 1; i < len(order); i++ {
		a, _ := h.Rank(order[i-1])
		b, _ := h.Rank(order[i])
		if Less(b, a) {
			t.Fatalf("%v is ahead of %v", a, b)
		}
	}
	checkTree(t, "many", h)
	if got := popAll(h); !slices.Equal(got, order) || len(got) != many/4*3 {
		t.Errorf("%d keys popped, %d in the order; they differ", len(got), len(order))
	}
	check(t, "spent", h)
}
