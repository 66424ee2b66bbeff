package heap

import (
	"math"
	"slices"
	"strings"
	"testing"
)

// pair is a key with a rank.
type pair[K comparable] struct {
	key  K
	rank Rank
}

// filled is a heap with these keys, set one behind the other.
func filled[K comparable](pairs ...pair[K]) *Heap[K] {
	h := New[K]()
	for _, p := range pairs {
		h.Set(p.key, p.rank)
	}
	return h
}

// same is a heap with these keys, all of one rank.
func same[K comparable](r Rank, keys ...K) *Heap[K] {
	h := New[K]()
	for _, key := range keys {
		h.Set(key, r)
	}
	return h
}

// letters are the one-letter keys of a text.
func letters(text string) []string { return strings.Split(text, "") }

// check holds all that a heap tells without a change against the keys that it should have, in their order.
func check[K comparable](t *testing.T, name string, h *Heap[K], want ...pair[K]) {
	t.Helper()
	keys := make([]K, len(want))
	for i, p := range want {
		keys[i] = p.key
	}
	checkKeys(t, name, h, keys...)
	for _, p := range want {
		if r, ok := h.Rank(p.key); r != p.rank || !ok {
			t.Errorf("%s: Rank of %v is %v, %v; want %v", name, p.key, r, ok, p.rank)
		}
	}
	var least pair[K]
	if len(want) > 0 {
		least = want[0]
	}
	if key, r, ok := h.Least(); key != least.key || r != least.rank || ok != (len(want) > 0) {
		t.Errorf("%s: Least is %v, %v, %v; want %v", name, key, r, ok, least)
	}
}

// checkKeys holds a heap's order against the keys that it should have.
func checkKeys[K comparable](t *testing.T, name string, h *Heap[K], want ...K) {
	t.Helper()
	if got := h.Order(); !slices.Equal(got, want) {
		t.Errorf("%s: the order is %v; want %v", name, got, want)
	}
	if h.Len() != len(want) {
		t.Errorf("%s: %d keys; want %d", name, h.Len(), len(want))
	}
	checkTree(t, name, h)
}

// checkTree looks at what no call tells: parents ahead of children, places that are known, no more kept than is there.
func checkTree[K comparable](t *testing.T, name string, h *Heap[K]) {
	t.Helper()
	for i, it := range h.tree {
		if it.at != i || h.items[it.key] != it {
			t.Errorf("%s: the item of %v isn't where it seems", name, it.key)
		}
		if i > 0 && it.ahead(h.tree[(i-1)/2]) {
			t.Errorf("%s: %v is ahead of its parent", name, it.key)
		}
	}
	if len(h.items) != len(h.tree) {
		t.Errorf("%s: %d items, %d in the tree", name, len(h.items), len(h.tree))
	}
	for _, it := range h.tree[len(h.tree):cap(h.tree)] {
		if it != nil {
			t.Errorf("%s: the spare room keeps %v", name, it.key)
		}
	}
}

// popAll takes keys off till none is left.
func popAll[K comparable](h *Heap[K]) []K {
	var keys []K
	for range 1 << 20 {
		key, ok := h.Pop()
		if !ok {
			break
		}
		keys = append(keys, key)
	}
	return keys
}

// P4.1: the chapter's example.
func TestExample(t *testing.T) {
	h := New[string]()
	h.Set("a", Rank{2, 0})
	h.Set("b", Rank{1, 9})
	check(t, "example", h, pair[string]{"b", Rank{1, 9}}, pair[string]{"a", Rank{2, 0}})
}

// P4.1: the first number counts ahead of the second one; no rank is ahead of its like.
func TestLess(t *testing.T) {
	const low, high = math.MinInt, math.MaxInt
	rising := []Rank{
		{low, low}, {low, -1}, {low, 0}, {low, high},
		{-2, 9}, {-1, -1}, {-1, 0},
		{0, low}, {0, -1}, {0, 0}, {0, 1}, {0, high},
		{1, low}, {1, 2}, {1, 7}, {2, 0}, {9, -9},
		{high, low}, {high, 0}, {high, high},
	}
	for i, a := range rising {
		for j, b := range rising {
			if got := Less(a, b); got != (i < j) {
				t.Errorf("Less of %v, %v is %v", a, b, got)
			}
		}
	}
}

// P4.1: what is asked of an empty heap changes nothing.
func TestEmptyHeap(t *testing.T) {
	popped := same(Rank{3, 4}, "a", "b")
	popAll(popped)
	removed := same(Rank{3, 4}, "a")
	removed.Remove("a")
	for _, c := range []struct {
		name string
		h    *Heap[string]
	}{{"new", New[string]()}, {"popped", popped}, {"removed", removed}} {
		for range 2 {
			check(t, c.name, c.h)
			if key, ok := c.h.Pop(); key != "" || ok {
				t.Errorf("%s: Pop is %q, %v", c.name, key, ok)
			}
			for _, key := range []string{"", "a", "b"} {
				if r, ok := c.h.Rank(key); r != (Rank{}) || ok {
					t.Errorf("%s: Rank of %q is %v, %v", c.name, key, r, ok)
				}
				if c.h.Remove(key) {
					t.Errorf("%s: Remove of %q", c.name, key)
				}
			}
		}
		c.h.Set("x", Rank{-1, 1})
		check(t, c.name+", with a key", c.h, pair[string]{"x", Rank{-1, 1}})
	}
}

// P4.1: one key is the first, whatever rank it has.
func TestOneKey(t *testing.T) {
	h := New[string]()
	for _, r := range []Rank{{}, {5, 5}, {5, 5}, {-1, 0}, {math.MaxInt, math.MaxInt}, {math.MinInt, math.MinInt}} {
		h.Set("a", r)
		check(t, "set", h, pair[string]{"a", r})
	}
	if r, ok := h.Rank("b"); r != (Rank{}) || ok || h.Remove("b") {
		t.Errorf("Rank of another key is %v, %v", r, ok)
	}
	if key, ok := h.Pop(); key != "a" || !ok {
		t.Errorf("Pop is %q, %v", key, ok)
	}
	check(t, "popped", h)
	h.Set("a", Rank{})
	if !h.Remove("a") || h.Remove("a") {
		t.Error("Remove")
	}
	check(t, "removed", h)
}

// P4.1, P4.2: ranks that part in the second number alone.
func TestSecondNumber(t *testing.T) {
	h := filled(
		pair[string]{"a", Rank{1, 5}}, pair[string]{"b", Rank{1, -5}}, pair[string]{"c", Rank{1, 6}},
		pair[string]{"d", Rank{1, math.MaxInt}}, pair[string]{"e", Rank{1, 0}}, pair[string]{"f", Rank{1, math.MinInt}},
	)
	checkKeys(t, "of one first number", h, letters("fbeacd")...)
	h.Set("d", Rank{0, math.MaxInt})
	h.Set("f", Rank{2, math.MinInt})
	checkKeys(t, "the first number ahead", h, letters("dbeacf")...)
	if got := popAll(h); !slices.Equal(got, letters("dbeacf")) {
		t.Errorf("popped: %q", got)
	}
}

// P4.1, P4.2: the least and the greatest numbers are ranks like others.
func TestUtmostNumbers(t *testing.T) {
	const low, high = math.MinInt, math.MaxInt
	h := filled(
		pair[string]{"a", Rank{high, high}}, pair[string]{"b", Rank{low, high}}, pair[string]{"c", Rank{high, low}},
		pair[string]{"d", Rank{low, low}}, pair[string]{"e", Rank{}}, pair[string]{"f", Rank{-1, high}}, pair[string]{"g", Rank{high, high}},
	)
	check(t, "utmost", h,
		pair[string]{"d", Rank{low, low}}, pair[string]{"b", Rank{low, high}}, pair[string]{"f", Rank{-1, high}}, pair[string]{"e", Rank{}},
		pair[string]{"c", Rank{high, low}}, pair[string]{"a", Rank{high, high}}, pair[string]{"g", Rank{high, high}},
	)
	if got := popAll(h); !slices.Equal(got, letters("dbfecag")) {
		t.Errorf("popped: %q", got)
	}
}

// P4.1, P4.2: keys of the same rank come in the order in which they came to have it, not in that in which they came.
func TestSameRank(t *testing.T) {
	keys := letters("qwertyuiopasdfghjkl")
	h := same(Rank{4, -4}, keys...)
	checkKeys(t, "as they came", h, keys...)
	if got := popAll(h); !slices.Equal(got, keys) {
		t.Errorf("popped: %q", got)
	}
	for i, key := range keys {
		h.Set(key, Rank{i, 0})
	}
	for _, key := range slices.Backward(keys) {
		h.Set(key, Rank{4, -4})
	}
	slices.Reverse(keys)
	checkKeys(t, "as they came to the rank", h, keys...)
	if got := popAll(h); !slices.Equal(got, keys) {
		t.Errorf("popped: %q", got)
	}
}

// P4.1: Set of a key that is there, with a lesser rank, a greater one, and the same one.
func TestSetAgain(t *testing.T) {
	for _, c := range []struct {
		key  string
		rank Rank
		want string
	}{
		{"a", Rank{0, 0}, "abcd"}, {"b", Rank{0, 0}, "bacd"}, {"c", Rank{0, 0}, "cabd"}, {"d", Rank{0, 0}, "dabc"},
		{"a", Rank{9, 0}, "bcda"}, {"b", Rank{9, 0}, "acdb"}, {"c", Rank{9, 0}, "abdc"}, {"d", Rank{9, 0}, "abcd"},
		{"a", Rank{1, 0}, "abcd"}, {"b", Rank{2, 0}, "abcd"}, {"c", Rank{3, 0}, "abcd"}, {"d", Rank{4, 0}, "abcd"},
		{"a", Rank{3, 0}, "bcad"}, {"d", Rank{2, 0}, "abdc"}, {"a", Rank{3, -1}, "bacd"}, {"d", Rank{2, -1}, "adbc"},
	} {
		h := filled(pair[string]{"a", Rank{1, 0}}, pair[string]{"b", Rank{2, 0}}, pair[string]{"c", Rank{3, 0}}, pair[string]{"d", Rank{4, 0}})
		for range 2 {
			h.Set(c.key, c.rank)
			checkKeys(t, "Set of "+c.key, h, letters(c.want)...)
			if r, ok := h.Rank(c.key); r != c.rank || !ok {
				t.Errorf("Rank of %s is %v, %v; want %v", c.key, r, ok, c.rank)
			}
		}
	}
}

// P4.1: a key that is given the rank that it has comes last of those that have it, and stays ahead of greater ones.
func TestSetOfTheSameRank(t *testing.T) {
	for _, c := range []struct{ key, want string }{
		{"a", "0bcda1"}, {"b", "0acdb1"}, {"c", "0abdc1"}, {"d", "0abcd1"},
	} {
		h := same(Rank{5, 5}, letters("abcd")...)
		h.Set("1", Rank{5, 6})
		h.Set("0", Rank{5, 4})
		for range 2 {
			h.Set(c.key, Rank{5, 5})
			checkKeys(t, "Set of "+c.key, h, letters(c.want)...)
		}
	}
}

// P4.1: a key that left a rank and comes back to it is the last there.
func TestSetThereAndBack(t *testing.T) {
	h := same(Rank{5, 5}, letters("abc")...)
	h.Set("a", Rank{1, 1})
	h.Set("a", Rank{5, 5})
	checkKeys(t, "set back", h, letters("bca")...)
	h.Remove("b")
	h.Set("b", Rank{5, 5})
	checkKeys(t, "removed and set", h, letters("cab")...)
	key, _ := h.Pop()
	h.Set(key, Rank{5, 5})
	checkKeys(t, "popped and set", h, letters("abc")...)
}

// P4.1
func TestRemove(t *testing.T) {
	for _, c := range []struct {
		key  string
		was  bool
		left string
	}{
		{"a", true, "bcdefg"}, {"b", true, "acdefg"}, {"d", true, "abcefg"}, {"f", true, "abcdeg"}, {"g", true, "abcdef"},
		{"h", false, "abcdefg"}, {"", false, "abcdefg"}, {"A", false, "abcdefg"}, {"ab", false, "abcdefg"}, {"a\x00", false, "abcdefg"},
	} {
		parted := New[string]()
		for i, key := range letters("abcdefg") {
			parted.Set(key, Rank{i, -i})
		}
		for name, h := range map[string]*Heap[string]{"parted": parted, "of one rank": same(Rank{7, 7}, letters("abcdefg")...)} {
			if got := h.Remove(c.key); got != c.was {
				t.Errorf("%s: Remove of %q is %v", name, c.key, got)
			}
			if r, ok := h.Rank(c.key); r != (Rank{}) || ok || h.Remove(c.key) {
				t.Errorf("%s: %q is there behind Remove", name, c.key)
			}
			checkKeys(t, name, h, letters(c.left)...)
			if got := popAll(h); !slices.Equal(got, letters(c.left)) {
				t.Errorf("%s: popped behind Remove of %q: %q", name, c.key, got)
			}
		}
	}
}

// P4.1: what fills a removed key's place may belong above it in the tree.
func TestRemoveLetsTheLastRise(t *testing.T) {
	h := New[int]()
	for _, n := range []int{0, 10, 1, 11, 12, 2, 3, 13, 14, 15, 16, 4} {
		h.Set(n, Rank{n, 0})
	}
	h.Remove(13)
	checkKeys(t, "without 13", h, 0, 1, 2, 3, 4, 10, 11, 12, 14, 15, 16)
}

// P4.1, P4.2
func TestPopTillNoneIsLeft(t *testing.T) {
	h := filled(pair[string]{"c", Rank{3, 0}}, pair[string]{"a", Rank{1, 2}}, pair[string]{"", Rank{1, 3}}, pair[string]{"b", Rank{1, 3}})
	want := []string{"a", "", "b", "c"}
	checkKeys(t, "all", h, want...)
	for len(want) > 0 {
		if key, ok := h.Pop(); key != want[0] || !ok {
			t.Errorf("Pop is %q, %v; want %q", key, ok, want[0])
		}
		if _, ok := h.Rank(want[0]); ok || h.Remove(want[0]) {
			t.Errorf("%q is there behind Pop", want[0])
		}
		want = want[1:]
		checkKeys(t, "popped", h, want...)
	}
	if key, ok := h.Pop(); key != "" || ok {
		t.Errorf("Pop of none is %q, %v", key, ok)
	}
}

// P4.1: Order leaves the heap as it was, and no two of its answers share memory.
func TestOrderChangesNothing(t *testing.T) {
	h := filled(pair[string]{"c", Rank{3, 0}}, pair[string]{"b", Rank{2, 0}}, pair[string]{"a", Rank{1, 0}}, pair[string]{"d", Rank{1, 0}})
	tree := slices.Clone(h.tree)
	keys, others := h.Order(), h.Order()
	if !slices.Equal(h.tree, tree) {
		t.Error("the tree isn't as it was")
	}
	keys[0], keys[3] = "x", "y"
	_ = append(others[:1], "z")
	checkKeys(t, "answers changed", h, letters("adbc")...)
	keys = h.Order()
	h.Set("a", Rank{9, 9})
	h.Pop()
	if !slices.Equal(keys, letters("adbc")) {
		t.Errorf("the answer is %q now", keys)
	}
}

// P4.1: the empty key is a key like any other, told from none by the true beside it.
func TestEmptyKey(t *testing.T) {
	h := New[string]()
	h.Set("", Rank{})
	check(t, "alone", h, pair[string]{"", Rank{}})
	h.Set("a", Rank{-1, 0})
	h.Set("b", Rank{1, 0})
	checkKeys(t, "in the midst", h, "a", "", "b")
	h.Set("", Rank{-2, 0})
	checkKeys(t, "at the front", h, "", "a", "b")
	if key, ok := h.Pop(); key != "" || !ok {
		t.Errorf("Pop is %q, %v", key, ok)
	}
	h.Set("", Rank{2, 0})
	if !h.Remove("") || h.Remove("") {
		t.Error("Remove")
	}
	checkKeys(t, "removed", h, "a", "b")
}

// P4.1: a heap keeps nothing of another one.
func TestHeapsApart(t *testing.T) {
	one, other := same(Rank{1, 1}, "a"), same(Rank{2, 2}, "a", "b")
	one.Set("a", Rank{5, 0})
	other.Remove("b")
	check(t, "one", one, pair[string]{"a", Rank{5, 0}})
	check(t, "the other", other, pair[string]{"a", Rank{2, 2}})
}
