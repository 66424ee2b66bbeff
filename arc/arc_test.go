package arc

import (
	"math"
	"strconv"
	"testing"

	"cachewise/api"
)

// P8.1: the chapter's example.
func TestExample(t *testing.T) {
	c := New(2)
	for _, x := range []struct {
		key   string
		want  api.Step
		after state
	}{
		{"a", miss, state{2, 0, "a", "", "", ""}},
		{"a", hit, state{2, 0, "", "a", "", ""}},
		{"b", miss, state{2, 0, "b", "a", "", ""}},
		{"c", wentFor("b"), state{2, 0, "c", "a", "b", ""}},
		{"b", wentFor("a"), state{2, 1, "c", "b", "", "a"}},
	} {
		ask(t, c, x.key, x.want)
		check(t, "behind "+x.key, c, x.after)
	}
}

// P8.1: New is without residents and ghosts; the share is 0.
func TestNew(t *testing.T) {
	for _, most := range []int{math.MinInt, -7, -1, 0, 1, 2, 9, api.MaxCap, math.MaxInt} {
		c := New(most)
		name := "new of " + strconv.Itoa(most)
		check(t, name, c, state{max(most, 0), 0, "", "", "", ""})
		for _, key := range []string{"", "a"} {
			if c.Has(key) || c.Remove(key) {
				t.Errorf("%s: %q is resident", name, key)
			}
		}
		dropNone(t, c)
		check(t, name+", asked", c, state{max(most, 0), 0, "", "", "", ""})
	}
}

// P8.1, P8.2: with no room at all nothing happens.
func TestNoRoom(t *testing.T) {
	full := state{4, 2, "ab", "cd", "ef", "gh"}
	shrunk, below := stood(t, full), stood(t, full)
	shrunk.Resize(0)
	below.Resize(-7)
	for name, c := range map[string]*Cache{"0": New(0), "-1": New(-1), "the least": New(math.MinInt), "shrunk": shrunk, "shrunk below 0": below} {
		for _, key := range []string{"a", "a", "a", "", "c", "e", "g", "x", "\xff"} {
			ask(t, c, key, miss)
			check(t, "most "+name, c, state{})
			if c.Has(key) || c.Adopt(key) || c.Has(key) || c.Remove(key) {
				t.Errorf("most %s: %q came to be resident", name, key)
			}
			check(t, "most "+name, c, state{})
		}
		dropNone(t, c)
		resize(t, c, -1, "")
		resize(t, c, 0, "")
		ask(t, c, "a", miss)
		check(t, "most "+name+", resized", c, state{})
	}
}

// P8.1, P8.2: of one, each other key lets the last one go; it goes as a ghost out of T2, or for a ghost.
func TestRoomForOne(t *testing.T) {
	c := New(1)
	for _, x := range []struct {
		key   string
		want  api.Step
		after state
	}{
		{"a", miss, state{1, 0, "a", "", "", ""}},
		{"b", wentFor("a"), state{1, 0, "b", "", "", ""}},
		{"b", hit, state{1, 0, "", "b", "", ""}},
		{"b", hit, state{1, 0, "", "b", "", ""}},
		{"c", wentFor("b"), state{1, 0, "c", "", "", "b"}},
		{"d", wentFor("c"), state{1, 0, "d", "", "", "b"}},
		{"b", wentFor("d"), state{1, 0, "", "b", "d", ""}},
		{"d", wentFor("b"), state{1, 1, "", "d", "", "b"}},
		{"e", wentFor("d"), state{1, 1, "e", "", "", "d"}},
		{"d", wentFor("e"), state{1, 0, "", "d", "e", ""}},
		{"f", wentFor("d"), state{1, 0, "f", "", "", "d"}},
		{"d", wentFor("f"), state{1, 0, "", "d", "f", ""}},
	} {
		ask(t, c, x.key, x.want)
		check(t, "behind "+x.key, c, x.after)
	}
	adopt(t, c, "f", false)
	adopt(t, c, "d", false)
	drop(t, c, "d")
	adopt(t, c, "f", true)
	check(t, "adopted", c, state{1, 0, "f", "", "", ""})
	resize(t, c, 0, "f")
}

// P8.1: a request of a key in T1, or in T2: a hit: it comes to T2's front, and nothing else changes.
func TestRequestOfResident(t *testing.T) {
	for _, most := range []int{5, 7, 20} {
		for _, share := range []int{0, 2, 3, 5} {
			before := state{most, share, "ab", "cde", "fg", "hij"}
			behind := func(t1, t2 string) state { return state{most, share, t1, t2, "fg", "hij"} }
			name := "of " + strconv.Itoa(most)
			askAll(t, []turn{
				{name, before, "a", hit, behind("b", "cdea")},
				{name, before, "b", hit, behind("a", "cdeb")},
				{name, before, "c", hit, behind("ab", "dec")},
				{name, before, "d", hit, behind("ab", "ced")},
				{name, before, "e", hit, behind("ab", "cde")},
			})
		}
	}
	askAll(t, []turn{
		{"T1 with most", state{3, 0, "abc", "", "", ""}, "b", hit, state{3, 0, "ac", "b", "", ""}},
		{"T2 with most", state{3, 0, "", "abc", "", ""}, "b", hit, state{3, 0, "", "acb", "", ""}},
		{"T1's only one", state{3, 2, "a", "", "", ""}, "a", hit, state{3, 2, "", "a", "", ""}},
		{"T2's only one", state{3, 2, "", "a", "", ""}, "a", hit, state{3, 2, "", "a", "", ""}},
	})
}

// P8.1: a request of a ghost of B1: a miss: the share grows, then room is made, if there is none; the key comes to T2's front.
func TestRequestInB1(t *testing.T) {
	roomy := state{6, 1, "ab", "c", "def", "ghijkl"}
	askAll(t, []turn{
		{"room left, the first", roomy, "d", miss, state{6, 3, "ab", "cd", "ef", "ghijkl"}},
		{"room left, one between", roomy, "e", miss, state{6, 3, "ab", "ce", "df", "ghijkl"}},
		{"room left, the last", roomy, "f", miss, state{6, 3, "ab", "cf", "de", "ghijkl"}},
		{"room left, no resident", state{3, 0, "", "", "ab", "cd"}, "b", miss, state{3, 1, "", "b", "a", "cd"}},
		{"T1 has more than the share", state{5, 1, "abc", "de", "fg", "hij"}, "f", wentFor("a"), state{5, 2, "bc", "def", "ag", "hij"}},
		{"T1 has more than the share, the last", state{5, 1, "abc", "de", "fg", "hij"}, "g", wentFor("a"), state{5, 2, "bc", "deg", "af", "hij"}},
		{"T1 has as many as the share has come to be", state{5, 2, "abc", "de", "fg", "hij"}, "f", wentFor("d"), state{5, 3, "abc", "ef", "g", "dhij"}},
		{"T1 has fewer than the share has come to be", state{5, 2, "ab", "cde", "f", "ghij"}, "f", wentFor("c"), state{5, 5, "ab", "def", "", "cghij"}},
		{"T1 has fewer than the share", state{5, 4, "ab", "cde", "fg", "hi"}, "g", wentFor("c"), state{5, 5, "ab", "deg", "f", "chi"}},
		{"T1 is empty", state{3, 0, "", "abc", "de", "f"}, "d", wentFor("a"), state{3, 1, "", "bcd", "e", "af"}},
		{"T2 is empty", state{3, 0, "ab", "", "c", "def"}, "c", miss, state{3, 3, "ab", "c", "", "def"}},
		{"T2 has one", state{3, 0, "ab", "c", "d", ""}, "d", wentFor("a"), state{3, 1, "b", "cd", "a", ""}},
	})
}

// P8.1: a request of a ghost of B2: a miss: the share shrinks, then room is made, if there is none; the key comes to T2's front.
func TestRequestInB2(t *testing.T) {
	roomy := state{6, 5, "a", "b", "cdefg", "hij"}
	askAll(t, []turn{
		{"room left, the first", roomy, "h", miss, state{6, 4, "a", "bh", "cdefg", "ij"}},
		{"room left, one between", roomy, "i", miss, state{6, 4, "a", "bi", "cdefg", "hj"}},
		{"room left, the last", roomy, "j", miss, state{6, 4, "a", "bj", "cdefg", "hi"}},
		{"room left, no resident", state{3, 2, "", "", "ab", "cd"}, "d", miss, state{3, 1, "", "d", "ab", "c"}},
		{"T1 has more than the share", state{5, 2, "ab", "cde", "fgh", "ij"}, "i", wentFor("a"), state{5, 1, "b", "cdei", "afgh", "j"}},
		{"T1 has as many as the share has come to be", state{5, 3, "ab", "cde", "fgh", "ij"}, "i", wentFor("a"), state{5, 2, "b", "cdei", "afgh", "j"}},
		{"T1 has as many as the share, the last", state{5, 3, "ab", "cde", "fgh", "ij"}, "j", wentFor("a"), state{5, 2, "b", "cdej", "afgh", "i"}},
		{"T1 has fewer than the share has come to be", state{5, 4, "ab", "cde", "fgh", "ij"}, "i", wentFor("c"), state{5, 3, "ab", "dei", "fgh", "cj"}},
		{"T1 has fewer, the last", state{5, 4, "ab", "cde", "fgh", "ij"}, "j", wentFor("c"), state{5, 3, "ab", "dej", "fgh", "ci"}},
		{"T1 is empty, as the share is", state{3, 1, "", "abc", "de", "f"}, "f", wentFor("a"), state{3, 0, "", "bcf", "de", "a"}},
		{"T1 is empty, and no B1", state{2, 0, "", "ab", "", "cd"}, "c", wentFor("a"), state{2, 0, "", "bc", "", "ad"}},
		{"T2 is empty", state{3, 3, "abc", "", "", "de"}, "d", wentFor("a"), state{3, 2, "bc", "d", "a", "e"}},
	})
}

// P8.1: the share grows by B2's number divided by B1's, as these are when the key is asked for, cut down, by 1 at least, to most at most.
func TestShareGrows(t *testing.T) {
	for _, x := range []struct {
		most, share int
		b1, b2      string
		want        int
	}{
		{20, 2, "a", "bcdefg", 8}, {20, 2, "ab", "cdefgh", 5}, {20, 2, "abc", "defghi", 4}, {20, 0, "abc", "defghi", 2},
		{20, 2, "ab", "cdefghi", 5}, {20, 2, "abc", "defgh", 3}, {20, 2, "abcd", "efghijk", 3}, {20, 0, "a", "bc", 2},
		{20, 2, "abc", "def", 3}, {20, 2, "abc", "de", 3}, {20, 2, "abc", "", 3}, {20, 0, "a", "", 1}, {20, 0, "a", "b", 1},
		{6, 1, "a", "bcdef", 6}, {6, 2, "a", "bcdef", 6}, {6, 5, "a", "bcdef", 6}, {6, 6, "a", "bcdef", 6},
		{6, 4, "ab", "", 5}, {6, 5, "ab", "", 6}, {6, 6, "ab", "", 6}, {1, 0, "a", "b", 1}, {1, 1, "a", "", 1},
	} {
		for _, key := range letters(x.b1) {
			c := stood(t, state{x.most, x.share, "", "", x.b1, x.b2})
			c.Request(key)
			if c.Share() != x.want {
				t.Errorf("%+v: behind %s the share is %d", x, key, c.Share())
			}
		}
	}
	askAll(t, []turn{
		{"who goes into B1 isn't counted", state{4, 0, "abcd", "", "", ""}, "x", wentFor("a"), state{4, 0, "bcdx", "", "", ""}},
		{"nor who goes into B2", state{4, 0, "ab", "cd", "e", "fgh"}, "e", wentFor("c"), state{4, 3, "ab", "de", "", "cfgh"}},
		{"nor does the key's leaving count", state{8, 0, "abc", "de", "fg", "hijk"}, "f", miss, state{8, 2, "abc", "def", "g", "hijk"}},
		{"three by two, and one of T1 goes", state{7, 1, "abcd", "efg", "hi", "jkl"}, "h", wentFor("a"), state{7, 2, "bcd", "efgh", "ai", "jkl"}},
	})
}

// P8.1: the share shrinks by B1's number divided by B2's, as these are when the key is asked for, cut down, by 1 at least, to 0 at least.
func TestShareShrinks(t *testing.T) {
	for _, x := range []struct {
		most, share int
		b1, b2      string
		want        int
	}{
		{20, 9, "abcdef", "g", 3}, {20, 9, "abcdef", "gh", 6}, {20, 9, "abcdef", "ghi", 7}, {20, 20, "abcdef", "ghi", 18},
		{20, 9, "abcdefg", "hi", 6}, {20, 9, "abcde", "fgh", 8}, {20, 9, "abcdefg", "hijk", 8}, {20, 9, "ab", "c", 7},
		{20, 9, "abc", "def", 8}, {20, 9, "ab", "cde", 8}, {20, 9, "", "abc", 8}, {20, 1, "", "a", 0}, {20, 1, "a", "b", 0},
		{6, 6, "abcde", "f", 1}, {6, 5, "abcde", "f", 0}, {6, 4, "abcde", "f", 0}, {6, 1, "abcde", "f", 0}, {6, 0, "abcde", "f", 0},
		{6, 2, "", "ab", 1}, {6, 1, "", "ab", 0}, {6, 0, "", "ab", 0}, {1, 1, "a", "b", 0}, {1, 0, "", "a", 0},
	} {
		for _, key := range letters(x.b2) {
			c := stood(t, state{x.most, x.share, "", "", x.b1, x.b2})
			c.Request(key)
			if c.Share() != x.want {
				t.Errorf("%+v: behind %s the share is %d", x, key, c.Share())
			}
		}
	}
	askAll(t, []turn{
		{"who goes into B1 isn't counted", state{4, 1, "ab", "cd", "e", "fg"}, "f", wentFor("a"), state{4, 0, "b", "cdf", "ae", "g"}},
		{"nor who goes into B2", state{4, 4, "", "abcd", "efgh", ""}, "x", wentFor("a"), state{4, 4, "x", "bcd", "efg", "a"}},
		{"nor does the key's leaving count", state{8, 5, "a", "bc", "defg", "hi"}, "h", miss, state{8, 3, "a", "bch", "defg", "i"}},
		{"three by two, and one of T2 goes", state{6, 6, "abc", "def", "ghi", "jk"}, "k", wentFor("d"), state{6, 5, "abc", "efk", "ghi", "dj"}},
	})
}

// P8.1: any other key, with fewer than most in all rows: it comes to T1's front, and nothing else changes.
func TestRequestOfAnyOtherWithFew(t *testing.T) {
	c := New(3)
	for i, key := range letters("abc") {
		if c.Has(key) {
			t.Errorf("%q is resident", key)
		}
		ask(t, c, key, miss)
		check(t, "of three, "+key, c, state{3, 0, "abc"[:i+1], "", "", ""})
	}
	askAll(t, []turn{
		{"some in each row", state{6, 1, "a", "b", "c", "d"}, "x", miss, state{6, 1, "ax", "b", "c", "d"}},
		{"one less than most", state{5, 0, "a", "b", "c", "d"}, "x", miss, state{5, 0, "ax", "b", "c", "d"}},
		{"residents alone", state{5, 3, "ab", "cd", "", ""}, "x", miss, state{5, 3, "abx", "cd", "", ""}},
		{"ghosts alone", state{5, 3, "", "", "ab", "cd"}, "x", miss, state{5, 3, "x", "", "ab", "cd"}},
	})
}

// P8.1: any other key, with fewer than most in T1 and B1, and most or more, but not twice most, in all rows: room is made, if there is none.
func TestRequestOfAnyOtherMakesRoom(t *testing.T) {
	askAll(t, []turn{
		{"T1 has more than the share", state{4, 1, "ab", "cd", "", ""}, "x", wentFor("a"), state{4, 1, "bx", "cd", "a", ""}},
		{"T1 has more, by many", state{4, 0, "abc", "d", "", "efg"}, "x", wentFor("a"), state{4, 0, "bcx", "d", "a", "efg"}},
		{"T1 has as many as the share", state{4, 2, "ab", "cd", "", ""}, "x", wentFor("c"), state{4, 2, "abx", "d", "", "c"}},
		{"T1 has fewer than the share", state{4, 3, "ab", "cd", "e", "fg"}, "x", wentFor("c"), state{4, 3, "abx", "d", "e", "cfg"}},
		{"T1 is empty, as the share is", state{3, 0, "", "abc", "", "d"}, "x", wentFor("a"), state{3, 0, "x", "bc", "", "ad"}},
		{"T1 is empty, the share isn't", state{3, 3, "", "abc", "d", ""}, "x", wentFor("a"), state{3, 3, "x", "bc", "d", "a"}},
		{"one less than twice most", state{3, 1, "a", "bc", "", "de"}, "x", wentFor("b"), state{3, 1, "ax", "c", "", "bde"}},
		{"room left", state{4, 0, "ab", "c", "d", "efg"}, "x", miss, state{4, 0, "abx", "c", "d", "efg"}},
		{"room left, with most in all rows", state{4, 0, "a", "b", "c", "d"}, "x", miss, state{4, 0, "ax", "b", "c", "d"}},
	})
}

// P8.1: any other key, with fewer than most in T1 and B1, and twice most in all rows: B2's last one goes, and room is made, if there is none.
func TestRequestOfAnyOtherWithTwiceMost(t *testing.T) {
	askAll(t, []turn{
		{"T1 has as many as the share", state{3, 1, "a", "bc", "d", "ef"}, "x", wentFor("b"), state{3, 1, "ax", "c", "d", "be"}},
		{"T1 has more than the share", state{3, 0, "a", "bc", "d", "ef"}, "x", wentFor("a"), state{3, 0, "x", "bc", "ad", "e"}},
		{"T1 and B1 are empty", state{2, 0, "", "ab", "", "cd"}, "x", wentFor("a"), state{2, 0, "x", "b", "", "ac"}},
		{"room left", state{4, 1, "a", "bc", "d", "efgh"}, "x", miss, state{4, 1, "ax", "bc", "d", "efg"}},
		{"no resident", state{2, 1, "", "", "a", "bcd"}, "x", miss, state{2, 1, "x", "", "a", "bc"}},
	})
}

// P8.1: any other key, with most in T1 and B1, but fewer in T1: B1's last one goes, and room is made, if there is none.
func TestRequestOfAnyOtherWithMostInB1(t *testing.T) {
	askAll(t, []turn{
		{"T1 has more than the share", state{4, 1, "ab", "cd", "ef", ""}, "x", wentFor("a"), state{4, 1, "bx", "cd", "ae", ""}},
		{"T1 has more than the share, twice most", state{4, 1, "ab", "cd", "ef", "gh"}, "x", wentFor("a"), state{4, 1, "bx", "cd", "ae", "gh"}},
		{"T1 has as many as the share", state{4, 2, "ab", "cd", "ef", "gh"}, "x", wentFor("c"), state{4, 2, "abx", "d", "e", "cgh"}},
		{"T1 has fewer than the share", state{4, 3, "ab", "cd", "ef", "g"}, "x", wentFor("c"), state{4, 3, "abx", "d", "e", "cg"}},
		{"T1 is empty", state{3, 0, "", "abc", "def", ""}, "x", wentFor("a"), state{3, 0, "x", "bc", "de", "a"}},
		{"B1 has one", state{3, 0, "ab", "c", "d", ""}, "x", wentFor("a"), state{3, 0, "bx", "c", "a", ""}},
		{"room left", state{5, 1, "abc", "d", "ef", "gh"}, "x", miss, state{5, 1, "abcx", "d", "e", "gh"}},
		{"room left, twice most", state{5, 1, "abc", "d", "ef", "ghij"}, "x", miss, state{5, 1, "abcx", "d", "e", "ghij"}},
		{"no resident", state{2, 1, "", "", "ab", "cd"}, "x", miss, state{2, 1, "x", "", "a", "cd"}},
	})
}

// P8.1: any other key, with most in T1 alone: T1's last one goes, without a ghost, whatever the share.
func TestRequestOfAnyOtherWithMostInT1(t *testing.T) {
	for share := range 4 {
		askAll(t, []turn{
			{"no ghosts", state{3, share, "abc", "", "", ""}, "x", wentFor("a"), state{3, share, "bcx", "", "", ""}},
			{"one of B2", state{3, share, "abc", "", "", "d"}, "x", wentFor("a"), state{3, share, "bcx", "", "", "d"}},
			{"twice most", state{3, share, "abc", "", "", "def"}, "x", wentFor("a"), state{3, share, "bcx", "", "", "def"}},
		})
	}
	c := filled(3, "abc")
	for _, x := range []struct{ key, gone, t1 string }{{"d", "a", "bcd"}, {"a", "b", "cda"}, {"b", "c", "dab"}} {
		ask(t, c, x.key, wentFor(x.gone))
		check(t, "who went is any other key, "+x.key, c, state{3, 0, x.t1, "", "", ""})
	}
}

// P8.1, P8.2: what asks only counts as no request, and changes nothing.
func TestAskingIsNoRequest(t *testing.T) {
	s := state{5, 2, "abc", "de", "fg", "hij"}
	c := stood(t, s)
	for _, key := range letters("abcdefghijx") {
		for range 2 {
			c.Has(key)
			c.Adopt(key)
			c.Victim()
			c.Keys()
			c.Ghosts()
			c.Len()
			c.Share()
			c.Sizes()
			check(t, "asked", c, s)
		}
	}
	for _, key := range letters("fghijx") {
		if c.Has(key) {
			t.Errorf("Has of %q, no resident", key)
		}
	}
	ask(t, c, "x", wentFor("a"))
	check(t, "asked for", c, state{5, 2, "bcx", "de", "af", "hij"})
}

// P8.3: keys that come once only, however many, leave who was asked for again, where T1 has its share, and the share as it was.
func TestScanLeavesT2(t *testing.T) {
	for _, x := range []struct {
		before state
		t2     string
	}{
		{state{4, 0, "", "abc", "", ""}, "abc"}, {state{4, 0, "d", "abc", "", ""}, "abc"}, {state{6, 2, "ab", "cd", "ef", "gh"}, "cd"},
		{state{4, 0, "", "abcd", "", ""}, "bcd"}, {state{4, 2, "", "abcd", "", "ef"}, "d"}, {state{4, 4, "a", "bcd", "", ""}, ""},
	} {
		c := stood(t, x.before)
		for i := range 1000 {
			c.Request("once " + strconv.Itoa(i))
			checkBounds(t, "once", c, x.before.most)
		}
		for _, key := range letters(x.t2) {
			if !c.Has(key) {
				t.Errorf("%+v: %s went", x.before, key)
			}
		}
		if c.Sizes()[1] != len(x.t2) || c.Len() != x.before.most || c.Share() != x.before.share {
			t.Errorf("%+v: the sizes are %v, the share is %d", x.before, c.Sizes(), c.Share())
		}
	}
}

// P8.1, P8.3: a loop over one key more than there is room for, of keys asked for again, lets the share and all rows stay in their bounds.
func TestLoop(t *testing.T) {
	for most := 1; most <= 6; most++ {
		c := New(most)
		for i := range 40 * most {
			key := strconv.Itoa(i % (most + 1))
			hit := c.Has(key)
			if s := c.Request(key); s.Hit != hit || s.Out != (s.Victim != "") || s.Out && (s.Hit || c.Has(s.Victim)) || !c.Has(key) {
				t.Fatalf("of %d, request %d: %+v", most, i, s)
			}
			checkBounds(t, "loop", c, most)
		}
	}
}
