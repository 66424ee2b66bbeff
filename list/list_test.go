package list

import (
	"slices"
	"strconv"
	"strings"
	"testing"
)

// filled is a list with these keys from its front on.
func filled(keys ...string) *List {
	l := New()
	for _, key := range keys {
		l.Back(key)
	}
	return l
}

// check holds all that a list tells without a change against the keys that it should have.
func check(t *testing.T, name string, l *List, places int, want ...string) {
	t.Helper()
	if got := l.Keys(); !slices.Equal(got, want) {
		t.Errorf("%s: the keys are %q; want %q", name, got, want)
	}
	if l.Len() != len(want) || l.Places() != places {
		t.Errorf("%s: %d keys, %d places; want %d, %d", name, l.Len(), l.Places(), len(want), places)
	}
	for _, key := range want {
		if !l.Has(key) {
			t.Errorf("%s: %q isn't there", name, key)
		}
	}
	first, last := "", ""
	if len(want) > 0 {
		first, last = want[0], want[len(want)-1]
	}
	if key, ok := l.First(); key != first || ok != (len(want) > 0) {
		t.Errorf("%s: First is %q, %v; want %q", name, key, ok, first)
	}
	if key, ok := l.Last(); key != last || ok != (len(want) > 0) {
		t.Errorf("%s: Last is %q, %v; want %q", name, key, ok, last)
	}
	checkArena(t, name, l)
}

// checkArena looks at what no call tells: the row read backwards, and that empty places keep no key.
func checkArena(t *testing.T, name string, l *List) {
	t.Helper()
	keys := l.Keys()
	for at := l.places[root].prev; at != root; at = l.places[at].prev {
		last := len(keys) - 1
		if last < 0 || keys[last] != l.places[at].key {
			t.Errorf("%s: read backwards the row differs at %q", name, l.places[at].key)
			return
		}
		keys = keys[:last]
	}
	empty := 0
	for at := l.empty; at != root && empty <= l.Places(); at = l.places[at].next {
		empty++
		if l.places[at].key != "" {
			t.Errorf("%s: an empty place keeps %q", name, l.places[at].key)
		}
	}
	if len(keys) != 0 || empty+l.Len() != l.Places() {
		t.Errorf("%s: %d keys left over, %d empty places of %d", name, len(keys), empty, l.Places())
	}
}

// popAll takes keys off till none is left.
func popAll(l *List) []string {
	var keys []string
	for range 1 << 20 {
		key, ok := l.Pop()
		if !ok {
			break
		}
		keys = append(keys, key)
	}
	return keys
}

// P3.1: the chapter's example.
func TestExample(t *testing.T) {
	l := New()
	l.Front("a")
	l.Front("b")
	if key, ok := l.Pop(); key != "a" || !ok {
		t.Errorf("Pop is %q, %v; want a", key, ok)
	}
	check(t, "behind Pop", l, 2, "b")
}

// P3.1, P3.2: what is asked of an empty list changes nothing, and takes no place.
func TestEmptyList(t *testing.T) {
	spent := filled("a")
	spent.Pop()
	cleared := filled("a", "b")
	cleared.Clear()
	for _, c := range []struct {
		name   string
		l      *List
		places int
	}{{"new", New(), 0}, {"spent", spent, 1}, {"cleared", cleared, 0}} {
		for range 2 {
			check(t, c.name, c.l, c.places)
			if key, ok := c.l.Pop(); key != "" || ok {
				t.Errorf("%s: Pop is %q, %v", c.name, key, ok)
			}
			for _, key := range []string{"", "a", "b"} {
				if c.l.Has(key) || c.l.Remove(key) {
					t.Errorf("%s: %q is there", c.name, key)
				}
			}
		}
		check(t, c.name+", asked", c.l, c.places)
		c.l.Back("x")
		check(t, c.name+", with a key", c.l, 1, "x")
	}
}

// P3.1: one key is at both ends, wherever it is put.
func TestOneKey(t *testing.T) {
	for _, key := range []string{"a", "", "\x00", "\xff\xfe", strings.Repeat("k", 1000)} {
		l := New()
		for _, put := range []func(string){l.Front, l.Front, l.Back, l.Back, l.Front} {
			put(key)
			check(t, "put", l, 1, key)
		}
		if got, ok := l.Pop(); got != key || !ok {
			t.Errorf("Pop is %q, %v; want %q", got, ok, key)
		}
		check(t, "popped", l, 1)
		l.Back(key)
		if !l.Remove(key) || l.Remove(key) || l.Has(key) {
			t.Errorf("Remove of %q", key)
		}
		check(t, "removed", l, 1)
	}
}

// P3.1
func TestFrontAndBackOfNewKeys(t *testing.T) {
	l := New()
	l.Front("b")
	l.Front("a")
	l.Back("c")
	check(t, "three", l, 3, "a", "b", "c")
	l.Back("d")
	l.Front("z")
	check(t, "five", l, 5, "z", "a", "b", "c", "d")
}

// P3.1, P3.2: a key that is there moves, and takes no other place.
func TestFrontAndBackOfKeysThere(t *testing.T) {
	for _, c := range []struct{ key, front, back string }{
		{"a", "abcd", "bcda"},
		{"b", "bacd", "acdb"},
		{"c", "cabd", "abdc"},
		{"d", "dabc", "abcd"},
	} {
		l := filled("a", "b", "c", "d")
		for range 2 {
			l.Front(c.key)
			check(t, "Front of "+c.key, l, 4, strings.Split(c.front, "")...)
		}
		l = filled("a", "b", "c", "d")
		for range 2 {
			l.Back(c.key)
			check(t, "Back of "+c.key, l, 4, strings.Split(c.back, "")...)
		}
	}
}

// P3.1
func TestFrontAndBackOfTwoKeys(t *testing.T) {
	l := filled("a", "b")
	l.Front("b")
	check(t, "the last to the front", l, 2, "b", "a")
	l.Back("b")
	check(t, "the first to the back", l, 2, "a", "b")
	l.Front("a")
	l.Back("b")
	check(t, "each where it was", l, 2, "a", "b")
}

// P3.1
func TestRemove(t *testing.T) {
	for _, c := range []struct {
		key  string
		was  bool
		left string
	}{
		{"a", true, "bcd"}, {"b", true, "acd"}, {"c", true, "abd"}, {"d", true, "abc"},
		{"e", false, "abcd"}, {"", false, "abcd"}, {"A", false, "abcd"}, {"ab", false, "abcd"}, {"a\x00", false, "abcd"},
	} {
		l := filled("a", "b", "c", "d")
		if got := l.Remove(c.key); got != c.was {
			t.Errorf("Remove of %q: %v", c.key, got)
		}
		if l.Has(c.key) || l.Remove(c.key) {
			t.Errorf("%q is there behind Remove", c.key)
		}
		check(t, "without "+strconv.Quote(c.key), l, 4, strings.Split(c.left, "")...)
	}
}

// P3.1: a row of two keys that lost one is a row of one, at either end.
func TestRemoveOfTwo(t *testing.T) {
	for _, keys := range [][]string{{"a", "b"}, {"b", "a"}} {
		l := filled("a", "b")
		l.Remove(keys[0])
		check(t, "one", l, 2, keys[1])
		l.Remove(keys[1])
		check(t, "none", l, 2)
		l.Front(keys[0])
		check(t, "back again", l, 2, keys[0])
	}
}

// P3.1
func TestPopTillNoneIsLeft(t *testing.T) {
	l := filled("a", "b", "", "c")
	want := []string{"a", "b", "", "c"}
	for len(want) > 0 {
		last := len(want) - 1
		if key, ok := l.Pop(); key != want[last] || !ok {
			t.Errorf("Pop is %q, %v; want %q", key, ok, want[last])
		}
		if l.Has(want[last]) {
			t.Errorf("%q is there behind Pop", want[last])
		}
		want = want[:last]
		check(t, "popped", l, 4, want...)
	}
	if key, ok := l.Pop(); key != "" || ok {
		t.Errorf("Pop of none is %q, %v", key, ok)
	}
	check(t, "popped once more", l, 4)
}

// P3.1: the empty key is a key like any other, told from none by the true beside it.
func TestEmptyKey(t *testing.T) {
	l := New()
	if l.Has("") || l.Remove("") {
		t.Error("the empty key is in a new list")
	}
	l.Front("a")
	l.Remove("a")
	if l.Has("") || l.Remove("") {
		t.Error("an empty place counts as the empty key")
	}
	l.Back("")
	check(t, "alone", l, 1, "")
	l.Front("a")
	l.Back("b")
	check(t, "in the midst", l, 3, "a", "", "b")
	l.Front("")
	check(t, "at the front", l, 3, "", "a", "b")
	l.Back("")
	check(t, "at the back", l, 3, "a", "b", "")
	if key, ok := l.Pop(); key != "" || !ok {
		t.Errorf("Pop is %q, %v", key, ok)
	}
	check(t, "popped", l, 3, "a", "b")
}

// P3.1: no two answers of Keys share memory, and none is the list's own.
func TestKeysAreNew(t *testing.T) {
	l := filled("a", "b", "c")
	keys, others := l.Keys(), l.Keys()
	keys[0], keys[2] = "x", "y"
	_ = append(others[:1], "z")
	check(t, "answers changed", l, 3, "a", "b", "c")
	keys = l.Keys()
	l.Front("c")
	l.Remove("a")
	if !slices.Equal(keys, []string{"a", "b", "c"}) {
		t.Errorf("the answer is %q now", keys)
	}
}

// P3.1: a list keeps nothing of another one.
func TestListsApart(t *testing.T) {
	one, other := New(), New()
	one.Back("a")
	other.Back("b")
	other.Front("a")
	one.Remove("a")
	check(t, "one", one, 1)
	check(t, "the other", other, 2, "a", "b")
	one.Clear()
	check(t, "the other, one cleared", other, 2, "a", "b")
}

// P3.2: a place that came to be empty is taken again ahead of a new one.
func TestPlacesTakenAgain(t *testing.T) {
	l := filled("a", "b", "c", "d")
	l.Remove("b")
	l.Pop()
	l.Remove("a")
	check(t, "three went", l, 4, "c")
	l.Front("e")
	l.Back("b")
	check(t, "two came", l, 4, "e", "c", "b")
	l.Back("f")
	check(t, "all are taken", l, 4, "e", "c", "b", "f")
	l.Front("g")
	check(t, "a new one", l, 5, "g", "e", "c", "b", "f")
	popAll(l)
	check(t, "none left", l, 5)
	for i := range 6 {
		l.Front(strconv.Itoa(i))
		if want := max(5, i+1); l.Places() != want {
			t.Errorf("%d places with %d keys; want %d", l.Places(), i+1, want)
		}
	}
}

// P3.2: keys that come and go one at a time need no more places than there were at once.
func TestPlacesOfKeysThatComeAndGo(t *testing.T) {
	l := filled("a", "b", "c")
	for i := range 1000 {
		l.Pop()
		l.Front(strconv.Itoa(i))
		l.Remove(strconv.Itoa(i))
		l.Back(strconv.Itoa(-i))
	}
	if l.Len() != 3 || l.Places() != 3 {
		t.Errorf("%d keys, %d places; want 3, 3", l.Len(), l.Places())
	}
}

// P3.1, P3.2
func TestClear(t *testing.T) {
	l := filled("a", "b", "c", "d")
	l.Remove("b")
	l.Clear()
	check(t, "cleared", l, 0)
	for _, key := range []string{"a", "b", "c", "d"} {
		if l.Has(key) || l.Remove(key) {
			t.Errorf("%q is there behind Clear", key)
		}
	}
	l.Clear()
	check(t, "cleared twice", l, 0)
	l.Front("c")
	l.Back("x")
	check(t, "two behind Clear", l, 2, "c", "x")
	l.Pop()
	l.Back("a")
	check(t, "taken again behind Clear", l, 2, "c", "a")
	l.Clear()
	check(t, "cleared again", l, 0)
	l.Back("")
	check(t, "the empty key behind Clear", l, 1, "")
}

// Clear keeps none of the keys in the arena's spare room.
func TestClearForgetsKeys(t *testing.T) {
	l := filled("a", "b", "c")
	l.Clear()
	for _, p := range l.places[:cap(l.places)] {
		if p != (place{}) {
			t.Errorf("%+v is kept", p)
		}
	}
}
