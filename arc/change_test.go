package arc

import (
	"math"
	"slices"
	"strconv"
	"strings"
	"testing"
)

// P8.2: a resident of either row is one no more, and no ghost; a ghost of either row is none any more; any other key changes nothing.
func TestRemove(t *testing.T) {
	before := state{5, 2, "abc", "de", "fg", "hij"}
	for _, x := range []struct {
		key            string
		was            bool
		t1, t2, b1, b2 string
	}{
		{"a", true, "bc", "de", "fg", "hij"}, {"b", true, "ac", "de", "fg", "hij"}, {"c", true, "ab", "de", "fg", "hij"},
		{"d", true, "abc", "e", "fg", "hij"}, {"e", true, "abc", "d", "fg", "hij"},
		{"f", false, "abc", "de", "g", "hij"}, {"g", false, "abc", "de", "f", "hij"},
		{"h", false, "abc", "de", "fg", "ij"}, {"i", false, "abc", "de", "fg", "hj"}, {"j", false, "abc", "de", "fg", "hi"},
		{"x", false, "abc", "de", "fg", "hij"}, {"", false, "abc", "de", "fg", "hij"}, {"A", false, "abc", "de", "fg", "hij"},
		{"ab", false, "abc", "de", "fg", "hij"}, {"a\x00", false, "abc", "de", "fg", "hij"},
	} {
		c := stood(t, before)
		remove(t, c, x.key, x.was)
		check(t, "without "+strconv.Quote(x.key), c, state{5, 2, x.t1, x.t2, x.b1, x.b2})
	}
}

// P8.1, P8.2: who was removed comes as any other key, for which nobody goes while there is room.
func TestRequestBehindRemove(t *testing.T) {
	before := state{6, 2, "abc", "def", "g", "hi"}
	for _, x := range []struct {
		key   string
		gone  string
		after state
	}{
		{"b", "", state{6, 2, "acb", "def", "g", "hi"}},
		{"e", "", state{6, 2, "abce", "df", "g", "hi"}},
		{"g", "a", state{6, 2, "bcg", "def", "a", "hi"}},
		{"h", "a", state{6, 2, "bch", "def", "ag", "i"}},
	} {
		c := stood(t, before)
		c.Remove(x.key)
		want := miss
		if x.gone != "" {
			want = wentFor(x.gone)
		}
		ask(t, c, x.key, want)
		check(t, "back, "+x.key, c, x.after)
	}
}

// adoptAll holds for each key whether it is adopted, and the state behind it.
func adoptAll(t *testing.T, before state, want bool, after map[string]state) {
	t.Helper()
	for key, s := range after {
		c := stood(t, before)
		adopt(t, c, key, want)
		check(t, "adopt "+strconv.Quote(key), c, s)
	}
}

// P8.2: a resident isn't adopted, and stands where it stood; with no room left nobody is, and all stands.
func TestAdoptOfNone(t *testing.T) {
	for _, most := range []int{5, 6, 20} {
		s := state{most, 2, "abc", "de", "fg", "hij"}
		adoptAll(t, s, false, map[string]state{"a": s, "b": s, "c": s, "d": s, "e": s})
	}
	s := state{5, 2, "abc", "de", "fg", "hij"}
	adoptAll(t, s, false, map[string]state{"f": s, "g": s, "h": s, "j": s, "x": s, "": s})
}

// P8.2: with room left a key comes to T1's front, a ghost of either row too, which is one no more; the share stands.
func TestAdopt(t *testing.T) {
	adoptAll(t, state{7, 2, "ab", "cd", "ef", "gh"}, true, map[string]state{
		"e": {7, 2, "abe", "cd", "f", "gh"},
		"f": {7, 2, "abf", "cd", "e", "gh"},
		"g": {7, 2, "abg", "cd", "ef", "h"},
		"h": {7, 2, "abh", "cd", "ef", "g"},
		"x": {7, 2, "abx", "cd", "ef", "gh"},
	})
	c := New(2)
	adopt(t, c, "a", true)
	adopt(t, c, "a", false)
	adopt(t, c, "b", true)
	adopt(t, c, "c", false)
	check(t, "adopted alone", c, state{2, 0, "ab", "", "", ""})
	ask(t, c, "a", hit)
	check(t, "asked for again", c, state{2, 0, "b", "a", "", ""})
}

// P8.2: B1's last one goes, where T1 and B1 come to have more than most, and B2's, where all rows come to have more than twice most.
func TestAdoptTrims(t *testing.T) {
	adoptAll(t, state{5, 2, "ab", "cd", "efg", "hi"}, true, map[string]state{
		"x": {5, 2, "abx", "cd", "ef", "hi"},
		"h": {5, 2, "abh", "cd", "ef", "i"},
		"f": {5, 2, "abf", "cd", "eg", "hi"},
	})
	adoptAll(t, state{5, 2, "ab", "cd", "efg", "hij"}, true, map[string]state{
		"x": {5, 2, "abx", "cd", "ef", "hij"},
		"j": {5, 2, "abj", "cd", "ef", "hi"},
		"g": {5, 2, "abg", "cd", "ef", "hij"},
	})
	adoptAll(t, state{5, 2, "a", "bc", "d", "efghij"}, true, map[string]state{
		"x": {5, 2, "ax", "bc", "d", "efghi"},
		"e": {5, 2, "ae", "bc", "d", "fghij"},
		"d": {5, 2, "ad", "bc", "", "efghij"},
	})
	adoptAll(t, state{3, 0, "", "", "", "abcdef"}, true, map[string]state{
		"x": {3, 0, "x", "", "", "abcde"},
		"f": {3, 0, "f", "", "", "abcde"},
	})
	adoptAll(t, state{2, 1, "a", "", "b", "c"}, true, map[string]state{
		"b": {2, 1, "ab", "", "", "c"},
		"c": {2, 1, "ac", "", "", ""},
		"x": {2, 1, "ax", "", "", "c"},
	})
}

// P8.2: Victim is who would go for a key that is in no row; Drop lets that one go, without a ghost.
func TestVictimAndDrop(t *testing.T) {
	for _, x := range []struct {
		before      state
		key, t1, t2 string
	}{
		{state{4, 2, "abc", "d", "e", "fg"}, "a", "bc", "d"},
		{state{4, 2, "ab", "cd", "ef", "gh"}, "c", "ab", "d"},
		{state{4, 3, "ab", "cd", "ef", "gh"}, "c", "ab", "d"},
		{state{4, 0, "", "abcd", "e", "f"}, "a", "", "bcd"},
		{state{4, 4, "", "abcd", "e", "f"}, "a", "", "bcd"},
		{state{3, 0, "abc", "", "", "d"}, "a", "bc", ""},
		{state{3, 2, "abc", "", "", "def"}, "a", "bc", ""},
		{state{3, 3, "abc", "", "", "def"}, "a", "bc", ""},
		{state{6, 2, "abc", "d", "e", "fg"}, "a", "bc", "d"},
		{state{6, 3, "abc", "d", "e", "fg"}, "d", "abc", ""},
		{state{6, 6, "abc", "d", "e", "fg"}, "d", "abc", ""},
		{state{6, 6, "abc", "", "d", "ef"}, "a", "bc", ""},
		{state{6, 0, "", "ab", "c", "d"}, "a", "", "b"},
	} {
		c := stood(t, x.before)
		if key, ok := c.Victim(); key != x.key || !ok {
			t.Errorf("%+v: Victim is %q, %v", x, key, ok)
		}
		drop(t, c, x.key)
		after := x.before
		after.t1, after.t2 = x.t1, x.t2
		check(t, "dropped "+x.key, c, after)
		if c = stood(t, x.before); c.Len() == x.before.most {
			ask(t, c, "x", wentFor(x.key))
		}
	}
}

// P8.2: Drop lets T1's last ones go, as long as it has more than the share, then T2's, then T1's again; the ghosts that there are stay.
func TestDropTillNoneIsLeft(t *testing.T) {
	c := stood(t, state{5, 2, "abc", "de", "fg", "hij"})
	for _, x := range []struct{ key, t1, t2 string }{{"a", "bc", "de"}, {"d", "bc", "e"}, {"e", "bc", ""}, {"b", "c", ""}, {"c", "", ""}} {
		drop(t, c, x.key)
		check(t, "dropped "+x.key, c, state{5, 2, x.t1, x.t2, "fg", "hij"})
	}
	for range 2 {
		dropNone(t, c)
		check(t, "spent", c, state{5, 2, "", "", "fg", "hij"})
	}
	ask(t, c, "a", miss)
	check(t, "who was dropped is any other key", c, state{5, 2, "a", "", "fg", "hij"})
	ask(t, c, "h", miss)
	check(t, "a ghost comes back", c, state{5, 1, "a", "h", "fg", "ij"})
	ask(t, c, "g", miss)
	check(t, "another one", c, state{5, 2, "a", "hg", "f", "ij"})
}

// shrink is a Resize, with who goes, and the state behind it.
type shrink struct {
	most  int
	gone  string
	after state
}

// resizeAll holds each Resize, done again and again, and the way back.
func resizeAll(t *testing.T, before state, shrinks []shrink) {
	t.Helper()
	for _, x := range shrinks {
		c := stood(t, before)
		name := "resized to " + strconv.Itoa(x.most)
		for _, gone := range []string{x.gone, "", ""} {
			resize(t, c, x.most, gone)
			check(t, name, c, x.after)
		}
		back := x.after
		back.most = before.most
		resize(t, c, back.most, "")
		check(t, name+", and back", c, back)
	}
}

// P8.2: the share is at most that; residents go as ghosts, as room is made; then B1's last ones go, then B2's.
func TestResizeToFewer(t *testing.T) {
	resizeAll(t, state{6, 3, "abcd", "ef", "gh", "ijkl"}, []shrink{
		{6, "", state{6, 3, "abcd", "ef", "gh", "ijkl"}},
		{5, "a", state{5, 3, "bcd", "ef", "ag", "ijk"}},
		{4, "ae", state{4, 3, "bcd", "f", "a", "eij"}},
		{3, "aef", state{3, 3, "bcd", "", "", "fei"}},
		{2, "abef", state{2, 2, "cd", "", "", "fe"}},
		{1, "abcef", state{1, 1, "d", "", "", "f"}},
		{0, "abcdef", state{}},
		{-1, "abcdef", state{}},
		{math.MinInt, "abcdef", state{}},
	})
	resizeAll(t, state{6, 0, "ab", "cdef", "ghi", "jkl"}, []shrink{
		{5, "a", state{5, 0, "b", "cdef", "aghi", "j"}},
		{4, "ab", state{4, 0, "", "cdef", "bagh", ""}},
		{3, "abc", state{3, 0, "", "def", "bag", ""}},
		{2, "abcd", state{2, 0, "", "ef", "ba", ""}},
		{1, "abcde", state{1, 0, "", "f", "b", ""}},
		{0, "abcdef", state{}},
	})
	resizeAll(t, state{6, 6, "abc", "def", "g", "h"}, []shrink{
		{5, "d", state{5, 5, "abc", "ef", "g", "dh"}},
		{4, "de", state{4, 4, "abc", "f", "g", "edh"}},
		{3, "def", state{3, 3, "abc", "", "", "fed"}},
		{2, "adef", state{2, 2, "bc", "", "", "fe"}},
	})
	resizeAll(t, state{4, 4, "abcd", "", "", ""}, []shrink{
		{3, "a", state{3, 3, "bcd", "", "", ""}},
		{1, "abc", state{1, 1, "d", "", "", ""}},
	})
	resizeAll(t, state{4, 1, "", "abcd", "", ""}, []shrink{
		{3, "a", state{3, 1, "", "bcd", "", "a"}},
		{1, "abc", state{1, 1, "", "d", "", "c"}},
	})
}

// P8.2: nobody goes who fits, though there is less room than there was; the share and the ghosts are cut all the same.
func TestResizeOfFewResidents(t *testing.T) {
	resizeAll(t, state{6, 4, "a", "b", "cdefg", "hijkl"}, []shrink{
		{5, "", state{5, 4, "a", "b", "cdef", "hijk"}},
		{4, "", state{4, 4, "a", "b", "cde", "hij"}},
		{3, "", state{3, 3, "a", "b", "cd", "hi"}},
		{2, "", state{2, 2, "a", "b", "c", "h"}},
		{1, "b", state{1, 1, "a", "", "", "b"}},
	})
	resizeAll(t, state{4, 2, "", "", "abcd", "efgh"}, []shrink{
		{3, "", state{3, 2, "", "", "abc", "efg"}},
		{1, "", state{1, 1, "", "", "a", "e"}},
		{0, "", state{}},
	})
	resizeAll(t, state{3, 2, "", "", "", "abcdef"}, []shrink{
		{2, "", state{2, 2, "", "", "", "abcd"}},
		{1, "", state{1, 1, "", "", "", "ab"}},
	})
}

// P8.2: with more room nobody goes or comes, and the share stands.
func TestResizeToMore(t *testing.T) {
	before := state{5, 2, "abc", "de", "fg", "hij"}
	for _, most := range []int{6, 7, 10, 1000, math.MaxInt} {
		c := stood(t, before)
		resize(t, c, most, "")
		check(t, "of "+strconv.Itoa(most), c, state{most, 2, "abc", "de", "fg", "hij"})
		ask(t, c, "x", miss)
		check(t, "x", c, state{most, 2, "abcx", "de", "fg", "hij"})
	}
	c := stood(t, before)
	resize(t, c, 7, "")
	adopt(t, c, "y", true)
	adopt(t, c, "f", true)
	adopt(t, c, "z", false)
	check(t, "filled up", c, state{7, 2, "abcyf", "de", "g", "hij"})
	ask(t, c, "z", wentFor("a"))
	check(t, "one more", c, state{7, 2, "bcyfz", "de", "ag", "hij"})
}

// P8.1, P8.2: behind a Resize requests go by the room, the share and the ghosts that are left.
func TestRequestBehindResize(t *testing.T) {
	before := state{6, 3, "abcd", "ef", "gh", "ijkl"}
	c := stood(t, before)
	resize(t, c, 4, "ae")
	ask(t, c, "a", wentFor("f"))
	check(t, "one of B1", c, state{4, 4, "bcd", "a", "", "feij"})
	ask(t, c, "e", wentFor("b"))
	check(t, "one of B2, where T1 has its share", c, state{4, 3, "cd", "ae", "b", "fij"})
	ask(t, c, "g", wentFor("a"))
	check(t, "one that was forgotten", c, state{4, 3, "cdg", "e", "b", "afi"})

	c = stood(t, before)
	resize(t, c, 0, "abcdef")
	resize(t, c, 6, "")
	for i, key := range letters("abcdef") {
		ask(t, c, key, miss)
		check(t, "back, "+key, c, state{6, 0, "abcdef"[:i+1], "", "", ""})
	}
}

// P8.1, P8.2: with the greatest room twice most is more than an int holds, and no ghost goes.
func TestGreatestRoom(t *testing.T) {
	for _, most := range []int{math.MaxInt, math.MaxInt - 1, math.MaxInt/2 + 1, math.MaxInt / 2} {
		c := stood(t, state{5, 2, "ab", "cd", "efg", "hi"})
		resize(t, c, most, "")
		check(t, "resized", c, state{most, 2, "ab", "cd", "efg", "hi"})
		ask(t, c, "x", miss)
		adopt(t, c, "y", true)
		check(t, "two more", c, state{most, 2, "abxy", "cd", "efg", "hi"})
		ask(t, c, "e", miss)
		ask(t, c, "h", miss)
		check(t, "two ghosts are back", c, state{most, 2, "abxy", "cdeh", "fg", "i"})
	}
}

// P8.2: Keys are T1 from its last one on, then T2; Ghosts are B1 from its front on, then B2; both leave all as it was.
func TestKeysAndGhosts(t *testing.T) {
	c := New(3)
	for _, x := range []struct{ key, keys, ghosts string }{
		{"a", "a", ""}, {"b", "ab", ""}, {"a", "ba", ""}, {"c", "bca", ""}, {"d", "cda", "b"}, {"b", "dab", "c"},
		{"c", "dbc", "a"}, {"e", "dec", "ba"}, {"a", "eca", "db"}, {"f", "efa", "dcb"}, {"g", "fga", "ecb"},
	} {
		c.Request(x.key)
		for range 3 {
			if keys, ghosts := strings.Join(c.Keys(), ""), strings.Join(c.Ghosts(), ""); keys != x.keys || ghosts != x.ghosts {
				t.Fatalf("behind %s: %s, %s; want %s, %s", x.key, keys, ghosts, x.keys, x.ghosts)
			}
		}
	}
}

// No two answers share memory, and none is the cache's own.
func TestAnswersAreNew(t *testing.T) {
	s := state{5, 2, "abc", "de", "fg", "hij"}
	c := stood(t, s)
	keys, others, ghosts, more, sizes := c.Keys(), c.Keys(), c.Ghosts(), c.Ghosts(), c.Sizes()
	keys[0], keys[4], ghosts[0], ghosts[4], sizes[0] = "x", "y", "z", "w", 9
	_ = append(others[:1], "z")
	_ = append(more[:1], "z")
	check(t, "answers changed", c, s)
	keys, ghosts = c.Keys(), c.Ghosts()
	gone := c.Resize(3)
	if !slices.Equal(keys, letters("abcde")) || !slices.Equal(ghosts, letters("fghij")) || !slices.Equal(gone, letters("ad")) {
		t.Errorf("the answers are %q, %q, %q now", keys, ghosts, gone)
	}
	gone[0], gone[1] = "x", "y"
	check(t, "who went changed", c, state{3, 2, "bc", "e", "a", "dh"})
}

// P8.1, P8.2: the empty key is one like any other, told from none by the true beside it.
func TestEmptyKey(t *testing.T) {
	c := New(2)
	if c.Has("") || c.Remove("") {
		t.Error("the empty key is in a new cache")
	}
	none, empty := []string(nil), []string{""}
	ask(t, c, "", miss)
	checkRows(t, "in T1", c, 2, 0, empty, none, none, none)
	ask(t, c, "", hit)
	checkRows(t, "in T2", c, 2, 0, none, empty, none, none)
	request(c, "aa")
	ask(t, c, "b", wentFor(""))
	checkRows(t, "in B2", c, 2, 0, []string{"b"}, []string{"a"}, none, empty)
	ask(t, c, "", wentFor("b"))
	checkRows(t, "back", c, 2, 0, none, []string{"a", ""}, []string{"b"}, none)
	ask(t, c, "b", wentFor("a"))
	checkRows(t, "for one of B1", c, 2, 1, none, []string{"", "b"}, none, []string{"a"})
	drop(t, c, "")
	adopt(t, c, "", true)
	adopt(t, c, "", false)
	checkRows(t, "adopted", c, 2, 1, empty, []string{"b"}, none, []string{"a"})
	if gone := c.Resize(0); !slices.Equal(gone, []string{"", "b"}) {
		t.Errorf("%q went", gone)
	}
	c.Resize(2)
	ask(t, c, "", miss)
	request(c, "aa")
	ask(t, c, "b", wentFor(""))
	checkRows(t, "in B1", c, 2, 0, []string{"b"}, []string{"a"}, empty, none)
	ask(t, c, "", wentFor("a"))
	remove(t, c, "", true)
	remove(t, c, "", false)
	checkRows(t, "removed", c, 2, 1, []string{"b"}, none, none, []string{"a"})
}

// P8.1, P8.2: keys are bytes, texts or not, of any length, and each byte counts.
func TestKeysOfAnyBytes(t *testing.T) {
	keys := []string{"\xff", "\xfe", "\xff\xfe", "\x00", "\x00\x00", "\xc3", "\ufffd", "\xed\xa0\x80", strings.Repeat("\x80", 1000), strings.Repeat("\x80", 1001)}
	none := []string(nil)
	c := New(len(keys))
	for i, key := range keys {
		ask(t, c, key, miss)
		checkRows(t, "come", c, 10, 0, keys[:i+1], none, none, none)
	}
	for i, key := range keys[:5] {
		ask(t, c, key, hit)
		checkRows(t, "asked again", c, 10, 0, keys[i+1:], keys[:i+1], none, none)
	}
	ask(t, c, "", wentFor(keys[5]))
	checkRows(t, "one went", c, 10, 0, append(slices.Clone(keys[6:]), ""), keys[:5], keys[5:6], none)
	ask(t, c, keys[5], wentFor(keys[6]))
	checkRows(t, "it is back", c, 10, 1, append(slices.Clone(keys[7:]), ""), keys[:6], keys[6:7], none)
	remove(t, c, keys[6], false)
	remove(t, c, keys[9], true)
	adopt(t, c, keys[6], true)
	checkRows(t, "adopted", c, 10, 1, []string{keys[7], keys[8], "", keys[6]}, keys[:6], none, none)
	if gone := c.Resize(2); !slices.Equal(gone, slices.Concat([]string{keys[7], keys[8], ""}, keys[:5])) {
		t.Errorf("%q went", gone)
	}
	checkRows(t, "two are left", c, 2, 1, keys[6:7], keys[5:6], []string{""}, keys[4:5])
}

// A cache keeps nothing of another one.
func TestCachesApart(t *testing.T) {
	one, other := New(2), New(3)
	request(one, "aab")
	request(other, "ba")
	check(t, "one", one, state{2, 0, "b", "a", "", ""})
	check(t, "the other", other, state{3, 0, "ba", "", "", ""})
	one.Request("c")
	one.Remove("a")
	one.Resize(0)
	check(t, "one", one, state{})
	check(t, "the other", other, state{3, 0, "ba", "", "", ""})
	ask(t, other, "c", miss)
}
