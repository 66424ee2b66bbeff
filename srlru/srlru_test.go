package srlru

import (
	"math"
	"slices"
	"strconv"
	"strings"
	"testing"

	"cachewise/api"
)

// P7.1, P7.3: the chapter's example.
func TestExample(t *testing.T) {
	c := New(4)
	ask(t, c, "a", miss)
	ask(t, c, "a", hit)
	for i := range 100 {
		c.Request("other " + strconv.Itoa(i))
		if !c.Has("a") || c.Again() != 1 {
			t.Fatalf("behind %d others: a is resident: %v, %d were asked for again", i+1, c.Has("a"), c.Again())
		}
	}
	checkRows(t, "example", c, []string{"other 97", "other 98", "other 99"}, []string{"a"}, []string{"other 96", "other 95", "other 94", "other 93"}, 2)
	ask(t, c, "a", hit)
}

// P7.1: New is without residents and ghosts; the target is half of most, cut down.
func TestNew(t *testing.T) {
	for most, target := range map[int]int{
		math.MinInt: 0, -7: 0, -2: 0, -1: 0, 0: 0, 1: 0, 2: 1, 3: 1, 4: 2, 5: 2, 9: 4,
		api.MaxCap: api.MaxCap / 2, math.MaxInt: math.MaxInt / 2,
	} {
		c := New(most)
		name := "new of " + strconv.Itoa(most)
		check(t, name, c, "", "", "", target)
		for _, key := range []string{"", "a"} {
			if c.Has(key) || c.Remove(key) {
				t.Errorf("%s: %q is resident", name, key)
			}
		}
		if key, ok := c.Drop(); key != "" || ok {
			t.Errorf("%s: Drop is %q, %v", name, key, ok)
		}
		check(t, name+", asked", c, "", "", "", target)
	}
}

// P7.1, P7.2: with no room at all nothing happens.
func TestNoRoom(t *testing.T) {
	shrunk := filled(4, "ababccdef")
	shrunk.Resize(0)
	below := filled(4, "ababccdef")
	below.Resize(-7)
	for name, c := range map[string]*Cache{"0": New(0), "-1": New(-1), "the least": New(math.MinInt), "shrunk": shrunk, "shrunk below 0": below} {
		for _, key := range []string{"a", "a", "a", "", "b", "d", "\xff"} {
			ask(t, c, key, miss)
			check(t, "most "+name, c, "", "", "", 0)
			if c.Has(key) || c.Adopt(key) || c.Has(key) || c.Remove(key) {
				t.Errorf("most %s: %q came to be resident", name, key)
			}
			check(t, "most "+name, c, "", "", "", 0)
		}
		if key, ok := c.Drop(); key != "" || ok {
			t.Errorf("most %s: Drop is %q, %v", name, key, ok)
		}
		resize(t, c, -1, "")
		resize(t, c, 0, "")
		ask(t, c, "a", miss)
		check(t, "most "+name+", resized", c, "", "", "", 0)
	}
}

// P7.1, P7.2: of one, each other key lets the last one go, from whichever row, and the target stays 0.
func TestRoomForOne(t *testing.T) {
	c := New(1)
	ask(t, c, "a", miss)
	check(t, "one", c, "a", "", "", 0)
	ask(t, c, "a", hit)
	check(t, "asked again, the only one stays in A", c, "", "a", "", 0)
	ask(t, c, "a", hit)
	check(t, "once more", c, "", "a", "", 0)
	ask(t, c, "b", wentFor("a"))
	check(t, "another", c, "b", "", "a", 0)
	ask(t, c, "c", wentFor("b"))
	check(t, "one ghost at most", c, "c", "", "b", 0)
	ask(t, c, "b", wentFor("c"))
	check(t, "a ghost told as new", c, "", "b", "c", 0)
	ask(t, c, "c", wentFor("b"))
	check(t, "another one", c, "", "c", "b", 0)
	ask(t, c, "b", wentFor("c"))
	check(t, "a ghost told as old", c, "", "b", "c", 0)
	adopt(t, c, "c", false)
	adopt(t, c, "b", false)
	check(t, "none adopted", c, "", "b", "c", 0)
	drop(t, c, "b")
	adopt(t, c, "c", true)
	check(t, "adopted", c, "c", "", "", 0)
}

// P7.1: a request of a key in A: it comes to A's front, with room left and with none.
func TestRequestInA(t *testing.T) {
	c := filled(6, "aabbcc")
	check(t, "three of six", c, "", "abc", "", 3)
	for _, x := range []struct{ key, again string }{{"a", "bca"}, {"c", "bac"}, {"c", "bac"}, {"a", "bca"}, {"b", "cab"}} {
		ask(t, c, x.key, hit)
		check(t, "room left, "+x.key, c, "", x.again, "", 3)
	}
	request(c, "xyz")
	for _, x := range []struct{ key, again string }{{"c", "abc"}, {"c", "abc"}, {"b", "acb"}, {"a", "cba"}} {
		ask(t, c, x.key, hit)
		check(t, "no room left, "+x.key, c, "xyz", x.again, "", 3)
	}
}

// P7.1: a request of a key in N that wasn't demoted: it comes to A's front, and the target stands.
func TestRequestInN(t *testing.T) {
	c := filled(4, "ab")
	check(t, "two of four", c, "ab", "", "", 2)
	ask(t, c, "a", hit)
	check(t, "a", c, "b", "a", "", 2)
	ask(t, c, "b", hit)
	check(t, "b", c, "", "ab", "", 2)
	ask(t, c, "c", miss)
	ask(t, c, "c", hit)
	check(t, "room left: a is demoted", c, "a", "bc", "", 2)
	ask(t, c, "d", miss)
	ask(t, c, "d", hit)
	check(t, "no room left: b is demoted", c, "ab", "cd", "", 2)

	c = filled(4, "abcd")
	for _, x := range []struct{ key, fresh, again string }{{"d", "abc", "d"}, {"b", "ac", "db"}, {"c", "ad", "bc"}} {
		ask(t, c, x.key, hit)
		check(t, "no room left, "+x.key, c, x.fresh, x.again, "", 2)
	}
}

// P7.1: a request of a key in N that was demoted: the target grows too.
func TestRequestOfDemoted(t *testing.T) {
	c := filled(4, "ababcc")
	check(t, "a is demoted", c, "a", "bc", "", 2)
	ask(t, c, "a", hit)
	check(t, "room left", c, "", "bca", "", 3)
	ask(t, c, "a", hit)
	check(t, "a, in A", c, "", "bca", "", 3)

	c = filled(4, "ababccdd")
	check(t, "a and b are demoted", c, "ab", "cd", "", 2)
	ask(t, c, "b", hit)
	check(t, "no room left, b", c, "a", "cdb", "", 3)
	ask(t, c, "a", hit)
	check(t, "no room left, a", c, "", "cdba", "", 4)
}

// P7.1: who was demoted, came back and was demoted again counts each time.
func TestDemotedAgain(t *testing.T) {
	c := filled(6, "aabbccdd")
	check(t, "a is demoted", c, "a", "bcd", "", 3)
	ask(t, c, "a", hit)
	check(t, "a is back", c, "", "bcda", "", 4)
	request(c, "ee")
	check(t, "b is demoted", c, "b", "cdae", "", 4)
	request(c, "cdeff")
	check(t, "a is demoted again", c, "ba", "cdef", "", 4)
	ask(t, c, "a", hit)
	check(t, "a is back again", c, "b", "cdefa", "", 5)
}

// P7.1: a request of a ghost told as new: a miss; the target shrinks; it comes to A's front.
func TestRequestOfGhostToldAsNew(t *testing.T) {
	c := filled(4, "ababccdef")
	check(t, "full", c, "ef", "bc", "da", 2)
	ask(t, c, "d", wentFor("e"))
	check(t, "no room left", c, "fbc", "d", "ea", 1)

	c = filled(4, "ababccdef")
	drop(t, c, "e")
	ask(t, c, "d", miss)
	check(t, "room left", c, "fbc", "d", "a", 1)

	c = filled(6, "aabbccuvwxy")
	check(t, "of six", c, "wxy", "abc", "vu", 3)
	ask(t, c, "u", wentFor("w"))
	check(t, "u", c, "xyab", "cu", "wv", 2)
	ask(t, c, "w", wentFor("x"))
	check(t, "w", c, "yabcu", "w", "xv", 1)
}

// P7.1: a request of a ghost told as old: a miss; the target stands; it comes to A's front.
func TestRequestOfGhostToldAsOld(t *testing.T) {
	c := filled(4, "ababccdef")
	ask(t, c, "a", wentFor("e"))
	check(t, "no room left", c, "fb", "ca", "ed", 2)

	c = filled(4, "ababccdef")
	drop(t, c, "e")
	ask(t, c, "a", miss)
	check(t, "room left", c, "fb", "ca", "d", 2)
}

// P7.1: a request of any other key: a miss; it comes to N's front; who goes for it is N's last one.
func TestRequestOfAnyOther(t *testing.T) {
	c := New(3)
	for i, key := range letters("abc") {
		if c.Has(key) {
			t.Errorf("%q is resident", key)
		}
		ask(t, c, key, miss)
		check(t, "room left, "+key, c, "abc"[:i+1], "", "", 1)
	}
	ask(t, c, "d", wentFor("a"))
	check(t, "no room left, d", c, "bcd", "", "a", 1)
	ask(t, c, "c", hit)
	ask(t, c, "e", wentFor("b"))
	check(t, "no room left, e", c, "de", "c", "ba", 1)
	remove(t, c, "d", true)
	ask(t, c, "f", miss)
	check(t, "in the room of d", c, "ef", "c", "ba", 1)
}

// P7.1: the ghost that is asked for leaves its place to the victim, so that no other ghost goes.
func TestGhostLeavesItsPlace(t *testing.T) {
	c := filled(3, "abcdef")
	check(t, "as many ghosts as may be", c, "def", "", "cba", 1)
	ask(t, c, "a", wentFor("d"))
	check(t, "the last one is asked for", c, "ef", "a", "dcb", 1)
	ask(t, c, "d", wentFor("e"))
	check(t, "the first one is asked for", c, "fa", "d", "ecb", 1)
	ask(t, c, "c", wentFor("f"))
	check(t, "the one between is asked for", c, "ad", "c", "feb", 1)
}

// P7.1: the target grows to most at most.
func TestTargetIsMostAtMost(t *testing.T) {
	c := filled(4, "ababccdd")
	remove(t, c, "d", true)
	resize(t, c, 3, "")
	check(t, "two are demoted", c, "ab", "c", "", 2)
	ask(t, c, "a", hit)
	check(t, "most", c, "b", "ca", "", 3)
	ask(t, c, "b", hit)
	check(t, "not more than most", c, "", "cab", "", 3)
}

// P7.1: the target shrinks to 1 at least, and not if it is less.
func TestTargetIsOneAtLeast(t *testing.T) {
	c := filled(2, "abc")
	check(t, "at first", c, "bc", "", "a", 1)
	ask(t, c, "a", wentFor("b"))
	check(t, "1 stays", c, "c", "a", "b", 1)
	ask(t, c, "b", wentFor("c"))
	check(t, "1 stays again", c, "a", "b", "c", 1)

	c = filled(6, "abcdefuvw")
	check(t, "three ghosts told as new", c, "defuvw", "", "cba", 3)
	for _, x := range []struct {
		key    string
		target int
	}{{"a", 2}, {"b", 1}, {"c", 1}} {
		c.Request(x.key)
		if c.Target() != x.target {
			t.Errorf("behind %s: the target is %d; want %d", x.key, c.Target(), x.target)
		}
	}

	c = filled(1, "abab")
	check(t, "0 stays, of one", c, "", "b", "a", 0)

	c = New(0)
	c.Resize(2)
	request(c, "abc")
	check(t, "0, with ghosts", c, "bc", "", "a", 0)
	ask(t, c, "a", wentFor("b"))
	check(t, "0 stays, of two", c, "c", "a", "b", 0)
}

// P7.1: the target grows from 0 too.
func TestTargetGrowsFromNone(t *testing.T) {
	c := New(0)
	resize(t, c, 3, "")
	check(t, "room, and no target", c, "", "", "", 0)
	request(c, "aa")
	check(t, "the only one stays in A", c, "", "a", "", 0)
	request(c, "bb")
	check(t, "a is demoted", c, "a", "b", "", 0)
	ask(t, c, "a", hit)
	check(t, "the target grew, and b is demoted", c, "b", "a", "", 1)
	ask(t, c, "b", hit)
	check(t, "it grew again", c, "", "ab", "", 2)
}

// P7.1: the last ones of A are demoted, several at once, each to N's front, but never the only one.
func TestDemote(t *testing.T) {
	c := filled(8, "aabbccddvwxyz")
	check(t, "four in A", c, "wxyz", "abcd", "v", 4)
	ask(t, c, "v", wentFor("w"))
	check(t, "two at once", c, "xyzab", "cdv", "w", 3)
	ask(t, c, "w", wentFor("x"))
	check(t, "two more", c, "yzabcd", "vw", "x", 2)
	ask(t, c, "x", wentFor("y"))
	check(t, "two more, and one is left", c, "zabcdvw", "x", "y", 1)
	ask(t, c, "y", wentFor("z"))
	check(t, "the one that just came is left", c, "abcdvwx", "y", "z", 1)
	ask(t, c, "a", hit)
	check(t, "one of them is back", c, "bcdvwx", "ya", "z", 2)
}

// P7.1, P7.2: where N has none, A's last one is the victim, and goes as a ghost told as old.
func TestVictimOfA(t *testing.T) {
	c := filled(4, "ababccddba")
	check(t, "A alone", c, "", "cdba", "", 4)
	ask(t, c, "e", wentFor("c"))
	check(t, "one of A went", c, "e", "dba", "c", 4)
	ask(t, c, "f", wentFor("e"))
	check(t, "one of N went", c, "f", "dba", "ec", 4)
	ask(t, c, "c", wentFor("f"))
	check(t, "c is told as old", c, "", "dbac", "fe", 4)
	ask(t, c, "f", wentFor("d"))
	check(t, "for a ghost, with N empty", c, "b", "acf", "de", 3)
}

// P7.1: the last that went is the first of the ghosts, and there are no more of them than most.
func TestGhostsAtMost(t *testing.T) {
	c := New(3)
	want := []string{"", "", "", "a", "ba", "cba", "dcb", "edc", "fed"}
	for i, key := range letters("abcdefghi") {
		c.Request(key)
		check(t, key, c, "abcdefghi"[max(i-2, 0):i+1], "", want[i], 1)
	}
	ask(t, c, "a", wentFor("g"))
	check(t, "who is a ghost no more comes to N", c, "hia", "", "gfe", 1)
}

// toldCase is a way in which g went, and whether it is told as old then.
type toldCase struct {
	name string
	make func() *Cache
	old  bool
}

// toldCases are the ways in which a key goes once only, is asked for again, or is told as new again.
func toldCases() []toldCase {
	scan := func(c *Cache) *Cache {
		request(c, "vwxy")
		return c
	}
	return []toldCase{
		{"once", func() *Cache { return scan(filled(4, "g")) }, false},
		{"asked again, then demoted", func() *Cache { return scan(filled(4, "gghhii")) }, true},
		{"a new ghost that came back", func() *Cache { return scan(filled(6, "gabcdefghhii")) }, true},
		{"an old ghost that came back", func() *Cache { return scan(filled(4, "gghhii123gjjkk")) }, true},
		{"adopted", func() *Cache {
			c := New(4)
			c.Adopt("g")
			return scan(c)
		}, false},
		{"an old ghost that was adopted", func() *Cache {
			c := filled(4, "gghhii123")
			c.Drop()
			c.Adopt("g")
			return scan(c)
		}, false},
		{"adopted, asked, demoted", func() *Cache {
			c := New(4)
			c.Adopt("g")
			request(c, "ghhii")
			return scan(c)
		}, true},
		{"removed out of A, come again", func() *Cache {
			c := filled(4, "gg")
			c.Remove("g")
			c.Request("g")
			return scan(c)
		}, false},
		{"demoted, removed, come again", func() *Cache {
			c := filled(4, "gghhii")
			c.Remove("g")
			c.Request("g")
			return scan(c)
		}, false},
		{"an old ghost removed, come again", func() *Cache {
			c := filled(4, "gghhii123")
			c.Remove("g")
			c.Request("g")
			return scan(c)
		}, false},
		{"dropped out of A, come again", func() *Cache {
			c := filled(4, "gg")
			c.Drop()
			c.Request("g")
			return scan(c)
		}, false},
		{"demoted, dropped, come again", func() *Cache {
			c := filled(4, "gghhii")
			c.Drop()
			c.Request("g")
			return scan(c)
		}, false},
		{"an old ghost forgotten, come again", func() *Cache { return scan(filled(4, "gghhii12345678g")) }, false},
	}
}

// P7.1, P7.2: a ghost is told as old if it was asked for again while it was resident, since it came.
func TestToldAsOldOrNew(t *testing.T) {
	for _, x := range toldCases() {
		c := x.make()
		target := c.Target()
		if !slices.Contains(c.Ghosts(), "g") || target < 2 {
			t.Errorf("%s: g is no ghost of %q, or the target, %d, can't shrink", x.name, c.Ghosts(), target)
			continue
		}
		c.Request("g")
		want := target - 1
		if x.old {
			want = target
		}
		if c.Target() != want {
			t.Errorf("%s: the target is %d; want %d", x.name, c.Target(), want)
		}
	}
}

// P7.1: a resident of N that is told as new again isn't taken for a demoted one.
func TestNewAgainIsNotDemoted(t *testing.T) {
	for name, again := range map[string]func(c *Cache){
		"removed":         func(c *Cache) { c.Remove("a"); c.Request("a") },
		"dropped":         func(c *Cache) { c.Drop(); c.Request("a") },
		"adopted":         func(c *Cache) { c.Remove("a"); c.Adopt("a") },
		"a ghost adopted": func(c *Cache) { request(c, "de"); c.Drop(); c.Drop(); c.Adopt("a") },
	} {
		c := filled(4, "ababcc")
		check(t, name, c, "a", "bc", "", 2)
		again(c)
		if c.Again() != 2 || !c.Has("a") {
			t.Errorf("%s: a isn't back in N", name)
		}
		ask(t, c, "a", hit)
		if c.Target() != 2 {
			t.Errorf("%s: the target is %d; want 2", name, c.Target())
		}
	}
}

// P7.1, P7.2: what asks only counts as no request, and changes nothing.
func TestAskingIsNoRequest(t *testing.T) {
	c := filled(4, "ababccdef")
	for _, key := range letters("abcdefx") {
		for range 2 {
			c.Has(key)
			c.Adopt(key)
			c.Victim()
			c.Keys()
			c.Ghosts()
			c.Len()
			c.Again()
			c.Target()
			check(t, "asked", c, "ef", "bc", "da", 2)
		}
	}
	if c.Has("a") || c.Has("d") || c.Has("x") {
		t.Error("Has of a ghost, or of any other key")
	}
	ask(t, c, "x", wentFor("e"))
	ask(t, c, "a", wentFor("f"))
	check(t, "a is told as old still", c, "xb", "ca", "fed", 2)
}

// P7.3: keys that come once only, however many, leave A and the target as they were, where N has one, or there is room left.
func TestScanLeavesA(t *testing.T) {
	for _, x := range []struct {
		most         int
		keys, again  string
		target, scan int
	}{
		{4, "aa", "a", 2, 5000}, {4, "abab", "ab", 2, 5000}, {4, "ababccdef", "bc", 2, 5000}, {4, "ababcca", "bca", 3, 5000},
		{2, "aa", "a", 1, 5000}, {3, "aabb", "b", 1, 5000}, {20, "aabbccddeeacb", "deacb", 10, 5000}, {4, "", "", 2, 5000},
	} {
		c := filled(x.most, x.keys)
		for i := range x.scan {
			c.Request("once " + strconv.Itoa(i))
			keys := c.Keys()
			if got := strings.Join(keys[len(keys)-c.Again():], ""); got != x.again || c.Target() != x.target {
				t.Fatalf("%d of %q, once %d: A is %q, the target %d; want %q, %d", x.most, x.keys, i, got, c.Target(), x.again, x.target)
			}
		}
		if c.Len() != x.most || len(c.Ghosts()) != x.most {
			t.Errorf("%d residents, %d ghosts; want %d of each", c.Len(), len(c.Ghosts()), x.most)
		}
	}
}

// P7.3 by the words of the victim: where A has all the room, the first of these keys takes one of A's, and no other one does.
func TestScanWithNoRoomBesideA(t *testing.T) {
	c := filled(4, "ababccddba")
	check(t, "A alone", c, "", "cdba", "", 4)
	ask(t, c, "0", wentFor("c"))
	for i := range 100 {
		ask(t, c, strconv.Itoa(i+1), wentFor(strconv.Itoa(i)))
	}
	checkRows(t, "scanned", c, []string{"100"}, letters("dba"), []string{"99", "98", "97", "96"}, 4)
}
