package heap

import (
	"math"
	"slices"
	"testing"
)

// ofKeys sets three keys, unlike each other and the zero key, and takes them off by all calls.
func ofKeys[K comparable](t *testing.T, name string, a, b, c K) {
	t.Helper()
	var zero K
	h := filled(pair[K]{a, Rank{2, 1}}, pair[K]{b, Rank{1, 2}}, pair[K]{c, Rank{1, 2}}, pair[K]{zero, Rank{3, 3}})
	check(t, name, h, pair[K]{b, Rank{1, 2}}, pair[K]{c, Rank{1, 2}}, pair[K]{a, Rank{2, 1}}, pair[K]{zero, Rank{3, 3}})
	h.Set(b, Rank{1, 2})
	h.Set(zero, Rank{0, 9})
	checkKeys(t, name+", set again", h, zero, c, b, a)
	if !h.Remove(c) || h.Remove(c) {
		t.Errorf("%s: Remove of %v", name, c)
	}
	if got := popAll(h); !slices.Equal(got, []K{zero, b, a}) {
		t.Errorf("%s: popped: %v", name, got)
	}
	if key, ok := h.Pop(); key != zero || ok {
		t.Errorf("%s: Pop of none is %v, %v", name, key, ok)
	}
	check(t, name+", spent", h)
}

// P4.1, P4.2: keys of any kind that can be compared.
func TestKeysThatAreNoTexts(t *testing.T) {
	type spot struct {
		name string
		at   [2]int
	}
	ofKeys(t, "texts", "a", "b", "c")
	ofKeys(t, "whole numbers", math.MinInt, -1, math.MaxInt)
	ofKeys(t, "bytes", byte(255), 1, 2)
	ofKeys(t, "floats", math.Inf(1), -0.5, math.Inf(-1))
	ofKeys(t, "arrays", [2]string{"a"}, [2]string{"", "a"}, [2]string{"a", "a"})
	ofKeys(t, "structs", spot{"a", [2]int{}}, spot{"", [2]int{1, 0}}, spot{"", [2]int{0, 1}})
	ofKeys(t, "ranks", Rank{1, 0}, Rank{0, 1}, Rank{1, 1})
	ofKeys(t, "pointers", new(int), new(int), new(int))
	ofKeys[any](t, "interfaces", "1", 1, 1.0)
}

// P4.1: of bools there are two keys at most.
func TestKeysThatAreBools(t *testing.T) {
	h := filled(pair[bool]{true, Rank{1, 0}}, pair[bool]{false, Rank{2, 0}}, pair[bool]{true, Rank{3, 0}})
	check(t, "bools", h, pair[bool]{false, Rank{2, 0}}, pair[bool]{true, Rank{3, 0}})
}

// P4.1: two zeros that are told apart by their sign alone are one key.
func TestZeros(t *testing.T) {
	h := same(Rank{1, 0}, 0, math.Copysign(0, -1))
	if h.Len() != 1 || !h.Remove(0) || h.Len() != 0 {
		t.Errorf("%d keys", h.Len())
	}
}

// No key is like a NaN, itself neither: each Set brings a new one, and none is found; in the order they stand like others.
func TestKeysUnlikeThemselves(t *testing.T) {
	h := New[float64]()
	for range 3 {
		h.Set(math.NaN(), Rank{1, 0})
		h.Set(1, Rank{0, 0})
	}
	if _, ok := h.Rank(math.NaN()); ok || h.Remove(math.NaN()) || h.Len() != 4 || len(h.Order()) != 4 {
		t.Errorf("%d keys", h.Len())
	}
	got := popAll(h)
	if len(got) != 4 || got[0] != 1 || got[1] == got[1] || got[3] == got[3] {
		t.Errorf("popped: %v", got)
	}
	if len(h.items) != 0 {
		t.Errorf("%d items are kept", len(h.items))
	}
}

// No call panics, also where an interface holds what can't be compared.
func TestKeysThatCannotBeCompared(t *testing.T) {
	type part struct{ inner any }
	for _, key := range []any{[]int{1}, map[string]int{}, func() {}, [1]any{[]int{}}, part{[]string{"a"}}, part{part{map[int]int{}}}} {
		h := New[any]()
		if _, ok := h.Rank(key); ok || h.Remove(key) {
			t.Errorf("%T is in an empty heap", key)
		}
		h.Set("a", Rank{2, 0})
		h.Set(key, Rank{1, 0})
		h.Set(key, Rank{3, 0})
		if _, ok := h.Rank(key); ok || h.Remove(key) || h.Len() != 3 || len(h.Order()) != 3 {
			t.Errorf("%T: %d keys", key, h.Len())
		}
		got := popAll(h)
		if len(got) != 3 || got[1] != "a" || h.Len() != 0 || len(h.items) != 0 {
			t.Errorf("%T: popped %d keys", key, len(got))
		}
	}
}
