package lru

import (
	"math"
	"slices"
	"strconv"
	"strings"
	"testing"

	"cachewise/api"
)

// filled is a cache of at most so many, with these residents, asked for one behind the other.
func filled(most int, keys ...string) *Cache {
	c := New(most)
	for _, key := range keys {
		c.Request(key)
	}
	return c
}

// check holds all that a cache tells without a change against the residents that it should have, those that go first ahead.
func check(t *testing.T, name string, c *Cache, want ...string) {
	t.Helper()
	if got := c.Keys(); !slices.Equal(got, want) {
		t.Errorf("%s: the residents are %q; want %q", name, got, want)
	}
	if c.Len() != len(want) {
		t.Errorf("%s: %d residents; want %d", name, c.Len(), len(want))
	}
	for _, key := range want {
		if !c.Has(key) {
			t.Errorf("%s: %q isn't resident", name, key)
		}
	}
	first := ""
	if len(want) > 0 {
		first = want[0]
	}
	if key, ok := c.Victim(); key != first || ok != (len(want) > 0) {
		t.Errorf("%s: Victim is %q, %v; want %q", name, key, ok, first)
	}
	if got := c.Ghosts(); len(got) != 0 {
		t.Errorf("%s: the ghosts are %q", name, got)
	}
}

// ask holds what a request answers against what it should be.
func ask(t *testing.T, c *Cache, key string, want api.Step) {
	t.Helper()
	if got := c.Request(key); got != want {
		t.Errorf("Request of %q is %+v; want %+v", key, got, want)
	}
}

// resize holds who went at a Resize against who should have gone, in order.
func resize(t *testing.T, c *Cache, most int, want ...string) {
	t.Helper()
	if got := c.Resize(most); !slices.Equal(got, want) {
		t.Errorf("Resize to %d is %q; want %q", most, got, want)
	}
}

// dropAll lets victims go till none is left.
func dropAll(c *Cache) []string {
	var keys []string
	for range 1 << 20 {
		key, ok := c.Drop()
		if !ok {
			break
		}
		keys = append(keys, key)
	}
	return keys
}

var (
	hit  = api.Step{Hit: true}
	miss = api.Step{}
)

// wentFor is the step of a miss for which a resident went.
func wentFor(victim string) api.Step { return api.Step{Victim: victim, Out: true} }

// P5.1: the chapter's example.
func TestExample(t *testing.T) {
	c := New(2)
	ask(t, c, "a", miss)
	ask(t, c, "b", miss)
	ask(t, c, "a", hit)
	ask(t, c, "c", wentFor("b"))
	check(t, "example", c, "a", "c")
	if c.Has("b") {
		t.Error("b is resident")
	}
}

// P5.1: New is without residents, however many there is room for.
func TestNew(t *testing.T) {
	for _, most := range []int{math.MinInt, -1, 0, 1, 2, api.MaxCap, math.MaxInt} {
		c := New(most)
		check(t, "new of "+strconv.Itoa(most), c)
		for _, key := range []string{"", "a"} {
			if c.Has(key) || c.Remove(key) {
				t.Errorf("%q is resident in a new cache of %d", key, most)
			}
		}
	}
}

// P5.1, P5.2, P5.3: with no room at all nothing happens.
func TestNoRoom(t *testing.T) {
	shrunk := filled(3, "a", "b", "c")
	shrunk.Resize(0)
	below := filled(3, "a", "b", "c")
	below.Resize(-7)
	for name, c := range map[string]*Cache{"0": New(0), "-1": New(-1), "the least": New(math.MinInt), "shrunk": shrunk, "shrunk below 0": below} {
		for _, key := range []string{"a", "a", "", "b", "\xff"} {
			ask(t, c, key, miss)
			if c.Has(key) || c.Adopt(key) || c.Has(key) || c.Remove(key) {
				t.Errorf("most %s: %q came to be resident", name, key)
			}
			check(t, "most "+name, c)
		}
		if key, ok := c.Drop(); key != "" || ok {
			t.Errorf("most %s: Drop is %q, %v", name, key, ok)
		}
		resize(t, c, -1)
		resize(t, c, 0)
		ask(t, c, "a", miss)
		check(t, "most "+name+", resized", c)
	}
}

// P5.1, P5.3: of one, each other key lets the last one go.
func TestRoomForOne(t *testing.T) {
	c := New(1)
	ask(t, c, "a", miss)
	check(t, "one", c, "a")
	ask(t, c, "a", hit)
	check(t, "asked again", c, "a")
	ask(t, c, "b", wentFor("a"))
	check(t, "another", c, "b")
	ask(t, c, "a", wentFor("b"))
	ask(t, c, "", wentFor("a"))
	ask(t, c, "a", wentFor(""))
	check(t, "back again", c, "a")
	if c.Adopt("b") || c.Adopt("a") {
		t.Error("adopted, with no room left")
	}
	if key, ok := c.Drop(); key != "a" || !ok {
		t.Errorf("Drop is %q, %v; want a", key, ok)
	}
	if !c.Adopt("b") {
		t.Error("not adopted, with room left")
	}
	check(t, "adopted", c, "b")
}

// P5.1: a hit lets nobody go, and the key goes last, wherever it stood.
func TestRequestOfResidents(t *testing.T) {
	for _, most := range []int{4, 5} {
		for key, want := range map[string]string{"a": "bcda", "b": "acdb", "c": "abdc", "d": "abcd"} {
			c := filled(most, "a", "b", "c", "d")
			for range 2 {
				ask(t, c, key, hit)
				check(t, "hit of "+key, c, strings.Split(want, "")...)
			}
		}
	}
}

// P5.1: with room left none goes for a miss.
func TestRequestWithRoomLeft(t *testing.T) {
	c := New(3)
	for i, key := range []string{"a", "b", "c"} {
		if c.Has(key) {
			t.Errorf("%q is resident", key)
		}
		ask(t, c, key, miss)
		check(t, key, c, []string{"a", "b", "c"}[:i+1]...)
	}
	c.Remove("b")
	ask(t, c, "d", miss)
	check(t, "in the room of b", c, "a", "c", "d")
}

// P5.1: with none left, who wasn't asked for the longest goes, and is forgotten.
func TestRequestWithNoRoomLeft(t *testing.T) {
	c := filled(3, "a", "b", "c")
	ask(t, c, "d", wentFor("a"))
	check(t, "d", c, "b", "c", "d")
	ask(t, c, "b", hit)
	ask(t, c, "a", wentFor("c"))
	check(t, "a, a miss again", c, "d", "b", "a")
	if c.Has("c") {
		t.Error("c is resident")
	}
	ask(t, c, "e", wentFor("d"))
	ask(t, c, "f", wentFor("b"))
	ask(t, c, "g", wentFor("a"))
	check(t, "all others", c, "e", "f", "g")
}

// P5.1: a loop over one key more than there is room for never hits.
func TestLoop(t *testing.T) {
	c := filled(3, "0", "1", "2")
	for i := 3; i < 40; i++ {
		ask(t, c, strconv.Itoa(i%4), wentFor(strconv.Itoa((i+1)%4)))
	}
}

// P5.1: what asks only counts as no request.
func TestAskingIsNoRequest(t *testing.T) {
	c := filled(2, "a", "b")
	c.Has("a")
	c.Victim()
	c.Keys()
	c.Adopt("a")
	c.Len()
	check(t, "asked", c, "a", "b")
	ask(t, c, "c", wentFor("a"))
}

// P5.2
func TestRemove(t *testing.T) {
	for _, x := range []struct {
		key  string
		was  bool
		left string
	}{
		{"a", true, "bc"}, {"b", true, "ac"}, {"c", true, "ab"},
		{"d", false, "abc"}, {"", false, "abc"}, {"A", false, "abc"}, {"ab", false, "abc"}, {"a\x00", false, "abc"},
	} {
		c := filled(3, "a", "b", "c")
		if got := c.Remove(x.key); got != x.was {
			t.Errorf("Remove of %q is %v", x.key, got)
		}
		if c.Has(x.key) || c.Remove(x.key) {
			t.Errorf("%q is resident behind Remove", x.key)
		}
		check(t, "without "+strconv.Quote(x.key), c, strings.Split(x.left, "")...)
	}
}

// P5.1, P5.2: who was removed, or went, is a miss, for which nobody goes while there is room.
func TestRequestBehindRemove(t *testing.T) {
	c := filled(2, "a", "b")
	c.Remove("a")
	ask(t, c, "a", miss)
	check(t, "a is back", c, "b", "a")
	ask(t, c, "c", wentFor("b"))
	if c.Remove("b") {
		t.Error("who went was resident")
	}
}

// P5.2: a resident isn't adopted, and stands where it stood; another key is, as if asked for now, with room left alone.
func TestAdopt(t *testing.T) {
	c := filled(3, "a", "b")
	for _, key := range []string{"a", "b"} {
		if c.Adopt(key) {
			t.Errorf("%q, a resident, is adopted", key)
		}
		check(t, "a resident", c, "a", "b")
	}
	if !c.Adopt("c") {
		t.Error("c isn't adopted")
	}
	check(t, "adopted", c, "a", "b", "c")
	for _, key := range []string{"d", "", "a", "c"} {
		if c.Adopt(key) {
			t.Errorf("%q is adopted, with no room left", key)
		}
		check(t, "no room left", c, "a", "b", "c")
	}
	ask(t, c, "c", hit)
	ask(t, c, "a", hit)
	ask(t, c, "d", wentFor("b"))
	if !c.Remove("c") || !c.Adopt("b") {
		t.Error("b isn't adopted in the room of c")
	}
	check(t, "adopted again", c, "a", "d", "b")
}

// P5.2
func TestVictimAndDropTillNoneIsLeft(t *testing.T) {
	c := filled(4, "a", "b", "", "c", "b")
	for _, left := range [][]string{{"a", "", "c", "b"}, {"", "c", "b"}, {"c", "b"}, {"b"}} {
		check(t, "ahead of Drop", c, left...)
		if key, ok := c.Drop(); key != left[0] || !ok {
			t.Errorf("Drop is %q, %v; want %q", key, ok, left[0])
		}
		if c.Has(left[0]) {
			t.Errorf("%q is resident behind Drop", left[0])
		}
		check(t, "behind Drop", c, left[1:]...)
	}
	for range 2 {
		if key, ok := c.Victim(); key != "" || ok {
			t.Errorf("Victim of none is %q, %v", key, ok)
		}
		if key, ok := c.Drop(); key != "" || ok {
			t.Errorf("Drop of none is %q, %v", key, ok)
		}
	}
	check(t, "spent", c)
	ask(t, c, "a", miss)
	check(t, "one again", c, "a")
}

// P5.2: Drop leaves the room as it was.
func TestDropLeavesRoom(t *testing.T) {
	c := filled(2, "a", "b")
	c.Drop()
	ask(t, c, "c", miss)
	check(t, "filled up", c, "b", "c")
	ask(t, c, "d", wentFor("b"))
}

// P5.2, P5.3
func TestResizeToFewer(t *testing.T) {
	for most, went := range []string{"badc", "bad", "ba", "b", ""} {
		c := filled(4, "a", "b", "a", "d", "c")
		want := strings.Split("badc", "")
		resize(t, c, most, want[:len(went)]...)
		check(t, "resized to "+strconv.Itoa(most), c, want[len(went):]...)
		resize(t, c, most)
		check(t, "resized twice to "+strconv.Itoa(most), c, want[len(went):]...)
		if most > 0 {
			ask(t, c, "x", wentForFirst(want[len(went):], most))
		}
		if c.Len() > most {
			t.Errorf("%d residents, of %d", c.Len(), most)
		}
	}
}

// wentForFirst is the step of a miss: the first one goes where there is no room for more than these.
func wentForFirst(keys []string, most int) api.Step {
	if len(keys) < most {
		return miss
	}
	return wentFor(keys[0])
}

// P5.2: nobody goes who fits, though there is less room than there was.
func TestResizeOfFewResidents(t *testing.T) {
	c := filled(10, "a", "b")
	resize(t, c, 3)
	resize(t, c, 2)
	check(t, "just so many", c, "a", "b")
	ask(t, c, "c", wentFor("a"))
	resize(t, c, 1, "b")
	check(t, "one", c, "c")
}

// P5.2
func TestResizeToMore(t *testing.T) {
	c := filled(2, "a", "b")
	resize(t, c, 2)
	resize(t, c, 4)
	check(t, "resized", c, "a", "b")
	ask(t, c, "c", miss)
	if !c.Adopt("d") || c.Adopt("e") {
		t.Error("Adopt behind Resize")
	}
	ask(t, c, "e", wentFor("a"))
	check(t, "filled up", c, "b", "c", "d", "e")
	resize(t, c, math.MaxInt)
	ask(t, c, "a", miss)
	check(t, "the greatest", c, "b", "c", "d", "e", "a")
}

// P5.1, P5.2: below 0 is 0; who went comes back by requests alone.
func TestResizeToNoneAndBack(t *testing.T) {
	for _, none := range []int{0, -1, math.MinInt} {
		c := filled(3, "a", "b", "c", "a")
		resize(t, c, none, "b", "c", "a")
		check(t, "none", c)
		ask(t, c, "a", miss)
		if c.Adopt("a") {
			t.Error("adopted, with no room at all")
		}
		resize(t, c, 2)
		check(t, "back", c)
		ask(t, c, "a", miss)
		ask(t, c, "b", miss)
		ask(t, c, "c", wentFor("a"))
		check(t, "filled again", c, "b", "c")
	}
}

// P5.2: Keys are in the order in which Drop, or a Resize to none, lets them go.
func TestKeysInTheOrderOfGoing(t *testing.T) {
	make5 := func() *Cache { return filled(5, "a", "b", "c", "d", "e", "b", "f", "d", "b") }
	want := []string{"c", "e", "f", "d", "b"}
	c := make5()
	for range 3 {
		check(t, "told", c, want...)
	}
	if got := dropAll(c); !slices.Equal(got, want) {
		t.Errorf("dropped: %q; want %q", got, want)
	}
	resize(t, make5(), 0, want...)
	c = make5()
	for i, key := range want {
		ask(t, c, strconv.Itoa(i), wentFor(key))
	}
}

// P5.2: no two answers share memory, and none is the cache's own.
func TestAnswersAreNew(t *testing.T) {
	c := filled(4, "a", "b", "c", "d")
	keys, others := c.Keys(), c.Keys()
	keys[0], keys[3] = "x", "y"
	_ = append(others[:1], "z")
	check(t, "answers changed", c, "a", "b", "c", "d")
	keys = c.Keys()
	gone := c.Resize(2)
	c.Request("c")
	c.Request("e")
	if !slices.Equal(keys, []string{"a", "b", "c", "d"}) || !slices.Equal(gone, []string{"a", "b"}) {
		t.Errorf("the answers are %q, %q now", keys, gone)
	}
	gone[0] = "x"
	_ = append(gone, "y", "z")
	check(t, "who went changed", c, "c", "e")
}

// P5.2
func TestGhosts(t *testing.T) {
	c := filled(2, "a", "b", "c", "d")
	c.Drop()
	c.Remove("d")
	c.Request("e")
	c.Resize(0)
	if got := c.Ghosts(); len(got) != 0 {
		t.Errorf("the ghosts are %q", got)
	}
}

// P5.1, P5.2: the empty key is a key like any other, told from none by the true beside it.
func TestEmptyKey(t *testing.T) {
	c := New(2)
	ask(t, c, "", miss)
	check(t, "alone", c, "")
	ask(t, c, "", hit)
	ask(t, c, "a", miss)
	ask(t, c, "b", wentFor(""))
	if c.Has("") || c.Remove("") {
		t.Error("the empty key is resident")
	}
	c.Drop()
	if !c.Adopt("") || c.Adopt("") {
		t.Error("Adopt of the empty key")
	}
	check(t, "adopted", c, "b", "")
	ask(t, c, "b", hit)
	if key, ok := c.Drop(); key != "" || !ok {
		t.Errorf("Drop is %q, %v", key, ok)
	}
	c.Request("")
	c.Remove("b")
	resize(t, c, 0, "")
}

// P5.1, P5.2: keys are bytes, texts or not, of any length, and each byte counts.
func TestKeysThatAreNoTexts(t *testing.T) {
	keys := []string{"\xff", "\xfe", "\xff\xfe", "\x00", "\x00\x00", "\xc3", "\ufffd", "\xed\xa0\x80", strings.Repeat("\x80", 1000), strings.Repeat("\x80", 1001)}
	c := New(len(keys))
	for i, key := range keys {
		ask(t, c, key, miss)
		check(t, "no text", c, keys[:i+1]...)
	}
	ask(t, c, keys[0], hit)
	ask(t, c, "", wentFor(keys[1]))
	if !c.Remove(keys[2]) || c.Has(keys[2]) || !c.Adopt(keys[2]) {
		t.Errorf("Remove and Adopt of %q", keys[2])
	}
	resize(t, c, 3, keys[3:]...)
	check(t, "left", c, keys[0], "", keys[2])
}

// A cache keeps nothing of another one.
func TestCachesApart(t *testing.T) {
	one, other := New(2), New(3)
	one.Request("a")
	other.Request("b")
	other.Request("a")
	one.Remove("a")
	one.Resize(0)
	check(t, "one", one)
	check(t, "the other", other, "b", "a")
	ask(t, other, "c", miss)
}
