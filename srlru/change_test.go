package srlru

import (
	"math"
	"slices"
	"strconv"
	"strings"
	"testing"
)

// P7.2: a resident of either row is one no more, and no ghost; a ghost is none any more; any other key changes nothing.
func TestRemove(t *testing.T) {
	for _, x := range []struct {
		key                  string
		was                  bool
		fresh, again, ghosts string
	}{
		{"e", true, "f", "bc", "da"}, {"f", true, "e", "bc", "da"},
		{"b", true, "ef", "c", "da"}, {"c", true, "ef", "b", "da"},
		{"d", false, "ef", "bc", "a"}, {"a", false, "ef", "bc", "d"},
		{"x", false, "ef", "bc", "da"}, {"", false, "ef", "bc", "da"}, {"A", false, "ef", "bc", "da"}, {"bc", false, "ef", "bc", "da"}, {"e\x00", false, "ef", "bc", "da"},
	} {
		c := filled(4, "ababccdef")
		remove(t, c, x.key, x.was)
		check(t, "without "+strconv.Quote(x.key), c, x.fresh, x.again, x.ghosts, 2)
	}
}

// P7.1, P7.2: who was removed comes as any other key, for which nobody goes while there is room.
func TestRequestBehindRemove(t *testing.T) {
	for _, key := range letters("bc") {
		c := filled(4, "ababccdef")
		c.Remove(key)
		ask(t, c, key, miss)
		check(t, key+" of A", c, "ef"+key, strings.Replace("bc", key, "", 1), "da", 2)
	}
	for _, key := range letters("ad") {
		c := filled(4, "ababccdef")
		c.Remove(key)
		ask(t, c, key, wentFor("e"))
		check(t, key+", a ghost", c, "f"+key, "bc", "e"+strings.Replace("da", key, "", 1), 2)
	}
}

// P7.2: a resident isn't adopted, and stands where it stood.
func TestAdoptOfResident(t *testing.T) {
	for _, most := range []int{4, 5} {
		c := filled(4, "ababccdef")
		c.Resize(most)
		for _, key := range letters("efbc") {
			adopt(t, c, key, false)
			check(t, "adopt "+key, c, "ef", "bc", "da", 2)
		}
	}
}

// P7.2: a ghost is adopted with room left alone: it comes to N's front, told as new, and is a ghost no more; the target stands.
func TestAdoptOfGhost(t *testing.T) {
	c := filled(4, "ababccdef")
	for _, key := range letters("ad") {
		adopt(t, c, key, false)
		check(t, "no room left, "+key, c, "ef", "bc", "da", 2)
	}
	c.Resize(6)
	adopt(t, c, "a", true)
	check(t, "told as old", c, "efa", "bc", "d", 2)
	adopt(t, c, "d", true)
	check(t, "told as new", c, "efad", "bc", "", 2)
	ask(t, c, "a", hit)
	check(t, "a wasn't demoted", c, "efdb", "ca", "", 2)
}

// P7.2: any other key is adopted with room left alone, to N's front, and nobody goes for it.
func TestAdoptOfAnyOther(t *testing.T) {
	c := filled(4, "ababccdef")
	for _, key := range []string{"x", "", "A"} {
		adopt(t, c, key, false)
		check(t, "no room left", c, "ef", "bc", "da", 2)
	}
	drop(t, c, "e")
	adopt(t, c, "x", true)
	check(t, "room left", c, "fx", "bc", "da", 2)
	adopt(t, c, "x", false)
	adopt(t, c, "y", false)
	check(t, "no room left again", c, "fx", "bc", "da", 2)
	c = New(2)
	adopt(t, c, "a", true)
	adopt(t, c, "b", true)
	adopt(t, c, "c", false)
	check(t, "adopted alone", c, "ab", "", "", 1)
}

// P7.2: Drop lets N's last ones go, then A's, without a ghost; the ghosts that there are stay.
func TestVictimAndDropTillNoneIsLeft(t *testing.T) {
	c := filled(4, "ababccdef")
	for _, x := range []struct{ key, fresh, again string }{{"e", "f", "bc"}, {"f", "", "bc"}, {"b", "", "c"}, {"c", "", ""}} {
		if key, ok := c.Victim(); key != x.key || !ok {
			t.Errorf("Victim is %q, %v; want %q", key, ok, x.key)
		}
		drop(t, c, x.key)
		if c.Has(x.key) {
			t.Errorf("%q is resident behind Drop", x.key)
		}
		check(t, "dropped "+x.key, c, x.fresh, x.again, "da", 2)
	}
	for range 2 {
		if key, ok := c.Victim(); key != "" || ok {
			t.Errorf("Victim of none is %q, %v", key, ok)
		}
		if key, ok := c.Drop(); key != "" || ok {
			t.Errorf("Drop of none is %q, %v", key, ok)
		}
		check(t, "spent", c, "", "", "da", 2)
	}
	ask(t, c, "e", miss)
	check(t, "who was dropped is any other key", c, "e", "", "da", 2)
	ask(t, c, "a", miss)
	check(t, "a ghost comes back", c, "e", "a", "d", 2)
	ask(t, c, "d", miss)
	check(t, "another one", c, "ea", "d", "", 1)
}

// P7.2: Drop leaves the room as it was.
func TestDropLeavesRoom(t *testing.T) {
	c := filled(2, "ab")
	drop(t, c, "a")
	ask(t, c, "c", miss)
	check(t, "filled up", c, "bc", "", "", 1)
	ask(t, c, "d", wentFor("b"))
}

// six is a cache of 6, full, with two ghosts: a, told as old, and e, told as new.
func six(t *testing.T) *Cache {
	t.Helper()
	c := filled(6, "aabbccddefgh")
	check(t, "six", c, "fgh", "bcd", "ea", 3)
	return c
}

// P7.2: the target is at most that; victims go as ghosts, N's first; then the last ghosts go; nobody is demoted.
func TestResizeToFewer(t *testing.T) {
	for _, x := range []struct {
		most, target               int
		gone, fresh, again, ghosts string
	}{
		{6, 3, "", "fgh", "bcd", "ea"},
		{5, 3, "f", "gh", "bcd", "fea"},
		{4, 3, "fg", "h", "bcd", "gfea"},
		{3, 3, "fgh", "", "bcd", "hgf"},
		{2, 2, "fghb", "", "cd", "bh"},
		{1, 1, "fghbc", "", "d", "c"},
		{0, 0, "fghbcd", "", "", ""},
		{-1, 0, "fghbcd", "", "", ""},
		{math.MinInt, 0, "fghbcd", "", "", ""},
	} {
		c := six(t)
		name := "resized to " + strconv.Itoa(x.most)
		for _, gone := range []string{x.gone, "", ""} {
			resize(t, c, x.most, gone)
			check(t, name, c, x.fresh, x.again, x.ghosts, x.target)
		}
		resize(t, c, 6, "")
		check(t, name+", and back", c, x.fresh, x.again, x.ghosts, x.target)
		if x.gone != "" {
			ask(t, c, "x", miss)
		}
	}
}

// P7.2: with more room nobody goes, comes or is demoted, and the target stands.
func TestResizeToMore(t *testing.T) {
	c := six(t)
	resize(t, c, 8, "")
	check(t, "eight", c, "fgh", "bcd", "ea", 3)
	ask(t, c, "x", miss)
	adopt(t, c, "y", true)
	adopt(t, c, "z", false)
	check(t, "filled up", c, "fghxy", "bcd", "ea", 3)
	ask(t, c, "z", wentFor("f"))
	request(c, "012345")
	check(t, "more ghosts fit", c, "12345", "bcd", "0zyxhgfe", 3)
	resize(t, c, math.MaxInt, "")
	check(t, "the greatest", c, "12345", "bcd", "0zyxhgfe", 3)
	ask(t, c, "w", miss)
}

// P7.2: nobody goes who fits, though there is less room than there was; ghosts go all the same.
func TestResizeOfFewResidents(t *testing.T) {
	c := filled(4, "abcdefgh")
	check(t, "four", c, "efgh", "", "dcba", 2)
	drop(t, c, "e")
	drop(t, c, "f")
	resize(t, c, 3, "")
	check(t, "three", c, "gh", "", "dcb", 2)
	resize(t, c, 2, "")
	check(t, "two", c, "gh", "", "dc", 2)
	drop(t, c, "g")
	drop(t, c, "h")
	resize(t, c, 1, "")
	check(t, "one", c, "", "", "d", 1)
	ask(t, c, "c", miss)
	check(t, "who was forgotten is any other key", c, "c", "", "d", 1)
}

// P7.2: who goes at a Resize is told as it was, and so are the ghosts that stay.
func TestToldBehindResize(t *testing.T) {
	c := six(t)
	resize(t, c, 2, "fghb")
	resize(t, c, 6, "")
	ask(t, c, "b", miss)
	check(t, "b, told as old", c, "c", "db", "h", 2)
	ask(t, c, "h", miss)
	check(t, "h, told as new", c, "cdb", "h", "", 1)

	c = six(t)
	resize(t, c, 4, "fg")
	ask(t, c, "a", wentFor("h"))
	check(t, "a, told as old", c, "b", "cda", "hgfe", 3)
	ask(t, c, "e", wentFor("b"))
	check(t, "e, told as new", c, "cd", "ae", "bhgf", 2)
}

// P7.2: a key that was told as old is any other one when its ghost is gone.
func TestForgottenBehindResize(t *testing.T) {
	c := six(t)
	resize(t, c, 0, "fghbcd")
	resize(t, c, 6, "")
	for i, key := range letters("abcdef") {
		ask(t, c, key, miss)
		check(t, "back, "+key, c, "abcdef"[:i+1], "", "", 0)
	}
	ask(t, c, "a", hit)
	check(t, "a wasn't demoted", c, "bcdef", "a", "", 0)
}

// P7.2: Keys and Ghosts leave all as it was; Keys stand in the order in which Drop, a Resize to none, or other keys let them go.
func TestKeysInTheOrderOfGoing(t *testing.T) {
	want := letters("fghbcd")
	c := six(t)
	for range 3 {
		check(t, "told", c, "fgh", "bcd", "ea", 3)
	}
	if got := dropAll(c); !slices.Equal(got, want) {
		t.Errorf("dropped: %q; want %q", got, want)
	}
	resize(t, six(t), 0, "fghbcd")
	c = six(t)
	for most := 5; most >= 0; most-- {
		resize(t, c, most, want[5-most])
	}
}

// No two answers share memory, and none is the cache's own.
func TestAnswersAreNew(t *testing.T) {
	c := six(t)
	keys, others, ghosts, more := c.Keys(), c.Keys(), c.Ghosts(), c.Ghosts()
	keys[0], keys[5], ghosts[0] = "x", "y", "z"
	_ = append(others[:1], "z")
	_ = append(more[:1], "z")
	check(t, "answers changed", c, "fgh", "bcd", "ea", 3)
	keys, ghosts = c.Keys(), c.Ghosts()
	gone := c.Resize(2)
	if !slices.Equal(keys, letters("fghbcd")) || !slices.Equal(ghosts, letters("ea")) {
		t.Errorf("the answers are %q, %q now", keys, ghosts)
	}
	gone[0], gone[3] = "x", "y"
	check(t, "who went changed", c, "", "cd", "bh", 2)
}

// P7.1, P7.2: the empty key is one like any other, told from none by the true beside it.
func TestEmptyKey(t *testing.T) {
	c := New(4)
	if c.Has("") || c.Remove("") {
		t.Error("the empty key is in a new cache")
	}
	ask(t, c, "", miss)
	checkRows(t, "in N", c, []string{""}, nil, nil, 2)
	ask(t, c, "", hit)
	checkRows(t, "in A", c, nil, []string{""}, nil, 2)
	request(c, "aabb")
	checkRows(t, "demoted", c, []string{""}, []string{"a", "b"}, nil, 2)
	request(c, "c")
	ask(t, c, "d", wentFor(""))
	checkRows(t, "a ghost", c, []string{"c", "d"}, []string{"a", "b"}, []string{""}, 2)
	dropAll(c)
	c.Drop()
	checkRows(t, "a ghost alone", c, nil, nil, []string{""}, 2)
	ask(t, c, "", miss)
	checkRows(t, "told as old, though there was none to drop", c, nil, []string{""}, nil, 2)
	drop(t, c, "")
	adopt(t, c, "", true)
	adopt(t, c, "", false)
	checkRows(t, "adopted", c, []string{""}, nil, nil, 2)
	if gone := c.Resize(0); !slices.Equal(gone, []string{""}) {
		t.Errorf("%q went", gone)
	}
	c.Resize(1)
	c.Request("")
	remove(t, c, "", true)
	c.Request("")
	ask(t, c, "a", wentFor(""))
	remove(t, c, "", false)
	check(t, "removed", c, "a", "", "", 0)
}

// P7.1, P7.2: keys are bytes, texts or not, of any length, and each byte counts.
func TestKeysOfAnyBytes(t *testing.T) {
	keys := []string{"\xff", "\xfe", "\xff\xfe", "\x00", "\x00\x00", "\xc3", "\ufffd", "\xed\xa0\x80", strings.Repeat("\x80", 1000), strings.Repeat("\x80", 1001)}
	c := New(len(keys))
	for i, key := range keys {
		ask(t, c, key, miss)
		checkRows(t, "come", c, keys[:i+1], nil, nil, 5)
	}
	for i, key := range keys[:5] {
		ask(t, c, key, hit)
		checkRows(t, "asked again", c, keys[i+1:], keys[:i+1], nil, 5)
	}
	ask(t, c, "", wentFor(keys[5]))
	ask(t, c, keys[9], hit)
	checkRows(t, "one is demoted", c, []string{keys[6], keys[7], keys[8], "", keys[0]}, append(slices.Clone(keys[1:5]), keys[9]), keys[5:6], 5)
	ask(t, c, keys[0], hit)
	ask(t, c, keys[5], wentFor(keys[6]))
	checkRows(t, "a ghost is back", c, []string{keys[7], keys[8], "", keys[1], keys[2]}, []string{keys[3], keys[4], keys[9], keys[0], keys[5]}, keys[6:7], 5)
	remove(t, c, keys[6], false)
	remove(t, c, keys[3], true)
	adopt(t, c, keys[6], true)
	if gone := c.Resize(1); len(gone) != len(keys)-1 || gone[0] != keys[7] {
		t.Errorf("%q went", gone)
	}
	checkRows(t, "one is left", c, nil, keys[5:6], keys[0:1], 1)
}

// A cache keeps nothing of another one.
func TestCachesApart(t *testing.T) {
	one, other := New(2), New(3)
	request(one, "aab")
	request(other, "ba")
	check(t, "one", one, "b", "a", "", 1)
	check(t, "the other", other, "ba", "", "", 1)
	one.Remove("a")
	one.Resize(0)
	check(t, "one", one, "", "", "", 0)
	check(t, "the other", other, "ba", "", "", 1)
	ask(t, other, "c", miss)
}
