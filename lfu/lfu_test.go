package lfu

import (
	"math"
	"slices"
	"strconv"
	"strings"
	"testing"

	"cachewise/api"
)

// inBothWays runs a test of plain caches, and of churn ones.
func inBothWays(t *testing.T, do func(t *testing.T, churn bool)) {
	t.Run("plain", func(t *testing.T) { do(t, false) })
	t.Run("churn", func(t *testing.T) { do(t, true) })
}

// either is the row of the way, written with blanks between.
func either(churn bool, plain, churned string) []string {
	if churn {
		return strings.Fields(churned)
	}
	return strings.Fields(plain)
}

// filled is a cache of at most so many, of which these keys were asked for, one behind the other.
func filled(most int, churn bool, keys ...string) *Cache {
	c := New(most, churn)
	for _, key := range keys {
		c.Request(key)
	}
	return c
}

// resident is a key with its times.
type resident struct {
	key   string
	times int
}

func (r resident) String() string { return strconv.Quote(r.key) + " " + strconv.Itoa(r.times) }

// check holds all that a cache tells without a change against the residents that it should have, those that go first ahead.
// A resident is written as its key, and a digit behind it: its times.
func check(t *testing.T, name string, c *Cache, want ...string) {
	t.Helper()
	var row []resident
	for _, x := range want {
		end := len(x) - 1
		row = append(row, resident{x[:end], int(x[end] - '0')})
	}
	checkRow(t, name, c, row)
}

func checkRow(t *testing.T, name string, c *Cache, want []resident) {
	t.Helper()
	var got []resident
	for _, key := range c.Keys() {
		got = append(got, resident{key, c.Times(key)})
		if !c.Has(key) {
			t.Errorf("%s: %q isn't resident", name, key)
		}
	}
	if !slices.Equal(got, want) {
		t.Errorf("%s: the residents are %v; want %v", name, got, want)
	}
	if c.Len() != len(want) {
		t.Errorf("%s: %d residents; want %d", name, c.Len(), len(want))
	}
	var first resident
	if len(want) > 0 {
		first = want[0]
	}
	if key, ok := c.Victim(); key != first.key || ok != (len(want) > 0) {
		t.Errorf("%s: Victim is %q, %v; want %q", name, key, ok, first.key)
	}
	if got := c.Ghosts(); len(got) != 0 {
		t.Errorf("%s: the ghosts are %q", name, got)
	}
}

// checkGone holds that a key is no resident.
func checkGone(t *testing.T, name string, c *Cache, key string) {
	t.Helper()
	if c.Has(key) || c.Times(key) != 0 || slices.Contains(c.Keys(), key) {
		t.Errorf("%s: %q is resident, asked for %d times", name, key, c.Times(key))
	}
}

// ask holds what a request answers against what it should be.
func ask(t *testing.T, c *Cache, key string, want api.Step) {
	t.Helper()
	if got := c.Request(key); got != want {
		t.Errorf("Request of %q is %+v; want %+v", key, got, want)
	}
}

// resize holds who went at a Resize against who should have gone, in order.
func resize(t *testing.T, c *Cache, most int, want ...string) {
	t.Helper()
	if got := c.Resize(most); !slices.Equal(got, want) {
		t.Errorf("Resize to %d is %q; want %q", most, got, want)
	}
}

// dropAll lets victims go till none is left.
func dropAll(c *Cache) []string {
	var keys []string
	for range 1 << 20 {
		key, ok := c.Drop()
		if !ok {
			break
		}
		keys = append(keys, key)
	}
	return keys
}

var (
	hit  = api.Step{Hit: true}
	miss = api.Step{}
)

// wentFor is the step of a miss for which a resident went.
func wentFor(victim string) api.Step { return api.Step{Victim: victim, Out: true} }

// P6.1, P6.2: the chapter's example.
func TestExample(t *testing.T) {
	inBothWays(t, func(t *testing.T, churn bool) {
		c := New(2, churn)
		ask(t, c, "a", miss)
		ask(t, c, "a", hit)
		ask(t, c, "b", miss)
		ask(t, c, "c", wentFor("b"))
		check(t, "example", c, "c1", "a2")
		checkGone(t, "example", c, "b")
	})
}

// P6.1: New is without residents, however many there is room for.
func TestNew(t *testing.T) {
	inBothWays(t, func(t *testing.T, churn bool) {
		for _, most := range []int{math.MinInt, -1, 0, 1, 2, api.MaxCap, math.MaxInt} {
			c := New(most, churn)
			name := "new of " + strconv.Itoa(most)
			check(t, name, c)
			for _, key := range []string{"", "a"} {
				checkGone(t, name, c, key)
				if c.Remove(key) {
					t.Errorf("%s: %q was resident", name, key)
				}
			}
			if key, ok := c.Drop(); key != "" || ok {
				t.Errorf("%s: Drop is %q, %v", name, key, ok)
			}
		}
	})
}

// P6.1: with no room at all nothing happens.
func TestNoRoom(t *testing.T) {
	inBothWays(t, func(t *testing.T, churn bool) {
		shrunk := filled(3, churn, "a", "b", "c", "a")
		shrunk.Resize(0)
		below := filled(3, churn, "a", "b", "c", "a")
		below.Resize(-7)
		for name, c := range map[string]*Cache{"0": New(0, churn), "-1": New(-1, churn), "the least": New(math.MinInt, churn), "shrunk": shrunk, "shrunk below 0": below} {
			for _, key := range []string{"a", "a", "", "b", "\xff"} {
				ask(t, c, key, miss)
				if c.Adopt(key) || c.Remove(key) {
					t.Errorf("most %s: %q came to be resident", name, key)
				}
				checkGone(t, "most "+name, c, key)
				check(t, "most "+name, c)
			}
			if key, ok := c.Drop(); key != "" || ok {
				t.Errorf("most %s: Drop is %q, %v", name, key, ok)
			}
			resize(t, c, -1)
			resize(t, c, 0)
			ask(t, c, "a", miss)
			check(t, "most "+name+", resized", c)
		}
	})
}

// P6.1: of one, each other key lets the last one go, however often that was asked for.
func TestRoomForOne(t *testing.T) {
	inBothWays(t, func(t *testing.T, churn bool) {
		c := New(1, churn)
		ask(t, c, "a", miss)
		check(t, "one", c, "a1")
		ask(t, c, "a", hit)
		ask(t, c, "a", hit)
		check(t, "asked again", c, "a3")
		ask(t, c, "b", wentFor("a"))
		check(t, "another", c, "b1")
		ask(t, c, "a", wentFor("b"))
		check(t, "back again", c, "a1")
		ask(t, c, "", wentFor("a"))
		ask(t, c, "a", wentFor(""))
		if c.Adopt("b") || c.Adopt("a") {
			t.Error("adopted, with no room left")
		}
		check(t, "none adopted", c, "a1")
		if key, ok := c.Drop(); key != "a" || !ok {
			t.Errorf("Drop is %q, %v; want a", key, ok)
		}
		if !c.Adopt("b") {
			t.Error("not adopted, with room left")
		}
		check(t, "adopted", c, "b1")
	})
}

// P6.1: of the same times, plain the one that was asked for the longest ago goes, churn the one that was asked for last.
func TestSameTimes(t *testing.T) {
	inBothWays(t, func(t *testing.T, churn bool) {
		c := filled(4, churn, "a", "b", "c", "d")
		check(t, "each once", c, either(churn, "a1 b1 c1 d1", "d1 c1 b1 a1")...)
		ask(t, c, "c", hit)
		check(t, "c twice", c, either(churn, "a1 b1 d1 c2", "d1 b1 a1 c2")...)
		ask(t, c, "a", hit)
		check(t, "a twice", c, either(churn, "b1 d1 c2 a2", "d1 b1 a2 c2")...)
		ask(t, c, "e", wentFor(either(churn, "b", "d")[0]))
		check(t, "e", c, either(churn, "d1 e1 c2 a2", "e1 b1 a2 c2")...)
		ask(t, c, "f", wentFor(either(churn, "d", "e")[0]))
		check(t, "f", c, either(churn, "e1 f1 c2 a2", "f1 b1 a2 c2")...)
	})
}

// P6.1: when a resident was asked for last counts, not when it came, nor when it had fewer times.
func TestSameTimesByTheLastRequest(t *testing.T) {
	inBothWays(t, func(t *testing.T, churn bool) {
		c := filled(3, churn, "a", "b", "c", "c", "a", "b")
		check(t, "each twice", c, either(churn, "c2 a2 b2", "b2 a2 c2")...)
		for _, key := range []string{"b", "c", "a"} {
			ask(t, c, key, hit)
		}
		check(t, "each three times", c, either(churn, "b3 c3 a3", "a3 c3 b3")...)
		ask(t, c, "d", wentFor(either(churn, "b", "a")[0]))
	})
}

// P6.1: a hit lets nobody go, and counts once.
func TestRequestOfResidents(t *testing.T) {
	inBothWays(t, func(t *testing.T, churn bool) {
		wants := map[string][]string{
			"a": either(churn, "b1 c1 d1 a2", "d1 c1 b1 a2"),
			"b": either(churn, "a1 c1 d1 b2", "d1 c1 a1 b2"),
			"c": either(churn, "a1 b1 d1 c2", "d1 b1 a1 c2"),
			"d": either(churn, "a1 b1 c1 d2", "c1 b1 a1 d2"),
		}
		for _, most := range []int{4, 5} {
			for key, want := range wants {
				c := filled(most, churn, "a", "b", "c", "d")
				ask(t, c, key, hit)
				check(t, "hit of "+key, c, want...)
				ask(t, c, key, hit)
				want = append(slices.Clone(want[:3]), key+"3")
				check(t, "hit again of "+key, c, want...)
			}
		}
	})
}

// P6.1: with room left none goes for a miss.
func TestRequestWithRoomLeft(t *testing.T) {
	inBothWays(t, func(t *testing.T, churn bool) {
		c := New(3, churn)
		wants := [][]string{{"a1"}, either(churn, "a1 b1", "b1 a1"), either(churn, "a1 b1 c1", "c1 b1 a1")}
		for i, key := range []string{"a", "b", "c"} {
			checkGone(t, "ahead of its request", c, key)
			ask(t, c, key, miss)
			check(t, key, c, wants[i]...)
		}
		c.Remove("b")
		ask(t, c, "d", miss)
		check(t, "in the room of b", c, either(churn, "a1 c1 d1", "d1 c1 a1")...)
	})
}

// P6.1, P6.2: with none left the one of the fewest times goes, whenever it was asked for.
func TestRequestWithNoRoomLeft(t *testing.T) {
	inBothWays(t, func(t *testing.T, churn bool) {
		for _, keys := range []string{"abbccc", "cccbba", "bacbcc", "cabcbc"} {
			c := filled(3, churn, strings.Split(keys, "")...)
			check(t, keys, c, "a1", "b2", "c3")
			ask(t, c, "d", wentFor("a"))
			check(t, keys+", d", c, "d1", "b2", "c3")
			checkGone(t, keys, c, "a")
			ask(t, c, "d", hit)
			ask(t, c, "d", hit)
			ask(t, c, "a", wentFor("b"))
			check(t, keys+", a", c, either(churn, "a1 c3 d3", "a1 d3 c3")...)
		}
	})
}

// P6.1: what just came is no victim of its own request, though of its times churn takes the one asked for last.
func TestWhatWasAskedForIsThere(t *testing.T) {
	inBothWays(t, func(t *testing.T, churn bool) {
		c := filled(3, churn, "a", "a", "b", "b", "c", "c")
		last := either(churn, "a", "c")[0]
		for i := range 20 {
			key := strconv.Itoa(i)
			ask(t, c, key, wentFor(last))
			if c.Times(key) != 1 {
				t.Errorf("%q was asked for %d times", key, c.Times(key))
			}
			last = key
		}
	})
}

// P6.1: a loop over one key more than there is room for never hits plain; churn keeps all but one of them.
func TestLoop(t *testing.T) {
	plain, churned := filled(3, false, "0", "1", "2"), filled(3, true, "0", "1", "2")
	for i := 3; i < 40; i++ {
		key := strconv.Itoa(i % 4)
		ask(t, plain, key, wentFor(strconv.Itoa((i+1)%4)))
		want := hit
		switch i % 4 {
		case 2:
			want = wentFor("3")
		case 3:
			want = wentFor("2")
		}
		ask(t, churned, key, want)
	}
}

// P6.1: what asks only counts as no request.
func TestAskingIsNoRequest(t *testing.T) {
	inBothWays(t, func(t *testing.T, churn bool) {
		c := filled(2, churn, "a", "b")
		for _, key := range []string{"a", "b", "a", "x"} {
			c.Has(key)
			c.Times(key)
			c.Adopt(key)
			c.Victim()
			c.Keys()
			c.Ghosts()
			c.Len()
		}
		check(t, "asked", c, either(churn, "a1 b1", "b1 a1")...)
		ask(t, c, "c", wentFor(either(churn, "a", "b")[0]))
	})
}

// P6.1: one more with each request; 0 of any other key.
func TestTimes(t *testing.T) {
	inBothWays(t, func(t *testing.T, churn bool) {
		c := filled(3, churn, "b")
		for i := range 300 {
			if got := c.Times("a"); got != i {
				t.Errorf("Times behind %d requests is %d", i, got)
			}
			c.Request("a")
		}
		if c.Times("b") != 1 {
			t.Errorf("Times of b is %d", c.Times("b"))
		}
		for _, key := range []string{"", "A", "aa", "a\x00", "c", "\xff"} {
			if got := c.Times(key); got != 0 {
				t.Errorf("Times of %q, no resident, is %d", key, got)
			}
		}
	})
}

// P6.1: whichever way a key went, its times are 0, and 1 again when it comes back, whichever way it does.
func TestTimesOfWhoWentAndComesBack(t *testing.T) {
	goes := map[string]func(c *Cache){
		"victim":  func(c *Cache) { c.Request("b") },
		"Drop":    func(c *Cache) { c.Drop() },
		"Remove":  func(c *Cache) { c.Remove("a") },
		"Resize":  func(c *Cache) { c.Resize(0) },
		"Resize-": func(c *Cache) { c.Resize(-1) },
	}
	inBothWays(t, func(t *testing.T, churn bool) {
		for name, away := range goes {
			for _, adopted := range []bool{false, true} {
				c := filled(1, churn, "a", "a", "a")
				away(c)
				checkGone(t, name, c, "a")
				c.Resize(2)
				if adopted && !c.Adopt("a") || !adopted && c.Request("a").Hit {
					t.Errorf("%s: a doesn't come back", name)
				}
				if c.Times("a") != 1 {
					t.Errorf("%s: Times of a, back again, is %d", name, c.Times("a"))
				}
				ask(t, c, "a", hit)
				if c.Times("a") != 2 {
					t.Errorf("%s: Times of a, asked for again, is %d", name, c.Times("a"))
				}
			}
		}
	})
}

// P6.1
func TestRemove(t *testing.T) {
	inBothWays(t, func(t *testing.T, churn bool) {
		all := either(churn, "a1 b1 c2 d2", "b1 a1 d2 c2")
		for _, x := range []struct {
			key string
			was bool
		}{
			{"a", true}, {"b", true}, {"c", true}, {"d", true},
			{"e", false}, {"", false}, {"A", false}, {"ab", false}, {"a\x00", false}, {"a1", false},
		} {
			c := filled(4, churn, "a", "b", "c", "d", "c", "d")
			check(t, "all", c, all...)
			if got := c.Remove(x.key); got != x.was {
				t.Errorf("Remove of %q is %v", x.key, got)
			}
			checkGone(t, "removed", c, x.key)
			if c.Remove(x.key) {
				t.Errorf("%q was resident behind Remove", x.key)
			}
			left := slices.DeleteFunc(slices.Clone(all), func(r string) bool { return r[:1] == x.key })
			check(t, "without "+strconv.Quote(x.key), c, left...)
		}
	})
}

// P6.1: who was removed, or went, is a miss, for which nobody goes while there is room.
func TestRequestBehindRemove(t *testing.T) {
	inBothWays(t, func(t *testing.T, churn bool) {
		c := filled(2, churn, "a", "a", "b")
		if !c.Remove("a") {
			t.Error("a wasn't resident")
		}
		ask(t, c, "a", miss)
		check(t, "a is back", c, either(churn, "b1 a1", "a1 b1")...)
		victim := either(churn, "b", "a")[0]
		ask(t, c, "c", wentFor(victim))
		if c.Remove(victim) {
			t.Error("who went was resident")
		}
	})
}

// P6.1: a resident isn't adopted, and stays as it was; another key is, once, now, with room left alone.
func TestAdopt(t *testing.T) {
	inBothWays(t, func(t *testing.T, churn bool) {
		c := filled(5, churn, "a", "b", "a", "b", "c", "d")
		ahead := either(churn, "c1 d1 a2 b2", "d1 c1 b2 a2")
		for _, key := range []string{"a", "c", "b", "d"} {
			if c.Adopt(key) {
				t.Errorf("%q, a resident, is adopted", key)
			}
			check(t, "a resident", c, ahead...)
		}
		if !c.Adopt("e") {
			t.Error("e isn't adopted")
		}
		full := either(churn, "c1 d1 e1 a2 b2", "e1 d1 c1 b2 a2")
		check(t, "adopted", c, full...)
		for _, key := range []string{"f", "", "a", "e"} {
			if c.Adopt(key) {
				t.Errorf("%q is adopted, with no room left", key)
			}
			check(t, "no room left", c, full...)
		}
		ask(t, c, "e", hit)
		check(t, "asked for", c, either(churn, "c1 d1 a2 b2 e2", "d1 c1 e2 b2 a2")...)
		if !c.Remove("a") || !c.Adopt("a") {
			t.Error("a isn't adopted in its own room")
		}
		check(t, "adopted again", c, either(churn, "c1 d1 a1 b2 e2", "a1 d1 c1 e2 b2")...)
	})
}

// P6.1
func TestVictimAndDropTillNoneIsLeft(t *testing.T) {
	inBothWays(t, func(t *testing.T, churn bool) {
		c := filled(4, churn, "a", "b", "", "c", "b", "b", "a")
		left := []string{"1", "c1", "a2", "b3"}
		if churn {
			left = []string{"c1", "1", "a2", "b3"}
		}
		for ; len(left) > 0; left = left[1:] {
			check(t, "ahead of Drop", c, left...)
			victim := left[0][:len(left[0])-1]
			if key, ok := c.Drop(); key != victim || !ok {
				t.Errorf("Drop is %q, %v; want %q", key, ok, victim)
			}
			checkGone(t, "behind Drop", c, victim)
		}
		for range 2 {
			if key, ok := c.Victim(); key != "" || ok {
				t.Errorf("Victim of none is %q, %v", key, ok)
			}
			if key, ok := c.Drop(); key != "" || ok {
				t.Errorf("Drop of none is %q, %v", key, ok)
			}
		}
		check(t, "spent", c)
		ask(t, c, "a", miss)
		check(t, "one again", c, "a1")
	})
}

// P6.1: Drop leaves the room as it was.
func TestDropLeavesRoom(t *testing.T) {
	inBothWays(t, func(t *testing.T, churn bool) {
		c := filled(2, churn, "a", "b", "b")
		c.Drop()
		ask(t, c, "c", miss)
		check(t, "filled up", c, "c1", "b2")
		ask(t, c, "d", wentFor("c"))
	})
}

// P6.1: all that don't fit go, in order; the same size again lets nobody go.
func TestResizeToFewer(t *testing.T) {
	inBothWays(t, func(t *testing.T, churn bool) {
		all := either(churn, "b1 d1 a2 c2", "d1 b1 c2 a2")
		keys := either(churn, "b d a c", "d b c a")
		for most := range 5 {
			c := filled(4, churn, "a", "b", "a", "c", "d", "c")
			check(t, "all", c, all...)
			resize(t, c, most, keys[:4-most]...)
			name := "resized to " + strconv.Itoa(most)
			check(t, name, c, all[4-most:]...)
			for _, key := range keys[:4-most] {
				checkGone(t, name, c, key)
			}
			resize(t, c, most)
			check(t, name+" twice", c, all[4-most:]...)
			if most > 0 {
				ask(t, c, "x", wentFor(keys[4-most]))
			}
			if c.Len() != most {
				t.Errorf("%s: %d residents", name, c.Len())
			}
		}
	})
}

// P6.1: nobody goes who fits, though there is less room than there was.
func TestResizeOfFewResidents(t *testing.T) {
	inBothWays(t, func(t *testing.T, churn bool) {
		c := filled(10, churn, "a", "b", "a")
		resize(t, c, 3)
		resize(t, c, 2)
		check(t, "just so many", c, "b1", "a2")
		ask(t, c, "c", wentFor("b"))
		resize(t, c, 1, "c")
		check(t, "one", c, "a2")
	})
}

// P6.1
func TestResizeToMore(t *testing.T) {
	inBothWays(t, func(t *testing.T, churn bool) {
		c := filled(2, churn, "a", "b", "b")
		resize(t, c, 2)
		resize(t, c, 4)
		check(t, "resized", c, "a1", "b2")
		ask(t, c, "c", miss)
		if !c.Adopt("d") || c.Adopt("e") {
			t.Error("Adopt behind Resize")
		}
		ask(t, c, "e", wentFor(either(churn, "a", "d")[0]))
		check(t, "filled up", c, either(churn, "c1 d1 e1 b2", "e1 c1 a1 b2")...)
		resize(t, c, math.MaxInt)
		ask(t, c, "x", miss)
		check(t, "the greatest", c, either(churn, "c1 d1 e1 x1 b2", "x1 e1 c1 a1 b2")...)
	})
}

// P6.1: below 0 is 0; who went comes back by requests alone.
func TestResizeToNoneAndBack(t *testing.T) {
	inBothWays(t, func(t *testing.T, churn bool) {
		for _, none := range []int{0, -1, math.MinInt} {
			c := filled(3, churn, "a", "b", "c", "a")
			resize(t, c, none, either(churn, "b c a", "c b a")...)
			check(t, "none", c)
			ask(t, c, "a", miss)
			if c.Adopt("a") {
				t.Error("adopted, with no room at all")
			}
			resize(t, c, 2)
			check(t, "back", c)
			ask(t, c, "a", miss)
			ask(t, c, "b", miss)
			ask(t, c, "c", wentFor(either(churn, "a", "b")[0]))
			check(t, "filled again", c, either(churn, "b1 c1", "c1 a1")...)
		}
	})
}

// P6.1: Keys are in the order in which Drop, or a Resize to none, lets them go.
func TestKeysInTheOrderOfGoing(t *testing.T) {
	inBothWays(t, func(t *testing.T, churn bool) {
		made := func() *Cache { return filled(5, churn, "a", "b", "c", "d", "e", "b", "d", "b", "a", "b", "a") }
		want := either(churn, "c e d a b", "e c d a b")
		c := made()
		for range 3 {
			check(t, "told", c, either(churn, "c1 e1 d2 a3 b4", "e1 c1 d2 a3 b4")...)
		}
		if got := c.Keys(); !slices.Equal(got, want) {
			t.Errorf("the keys are %q; want %q", got, want)
		}
		if got := dropAll(c); !slices.Equal(got, want) {
			t.Errorf("dropped: %q; want %q", got, want)
		}
		resize(t, made(), 0, want...)
	})
}

// P6.1: no two answers share memory, and none is the cache's own.
func TestAnswersAreNew(t *testing.T) {
	inBothWays(t, func(t *testing.T, churn bool) {
		c := filled(4, churn, "a", "b", "b", "c", "c", "c", "d", "d", "d", "d")
		keys, others := c.Keys(), c.Keys()
		keys[0], keys[3] = "x", "y"
		_ = append(others[:1], "z")
		check(t, "answers changed", c, "a1", "b2", "c3", "d4")
		keys = c.Keys()
		gone := c.Resize(2)
		c.Request("c")
		c.Request("c")
		c.Request("e")
		if !slices.Equal(keys, []string{"a", "b", "c", "d"}) || !slices.Equal(gone, []string{"a", "b"}) {
			t.Errorf("the answers are %q, %q now", keys, gone)
		}
		gone[0] = "x"
		_ = append(gone, "y", "z")
		check(t, "who went changed", c, "e1", "c5")
	})
}

// P6.1
func TestGhosts(t *testing.T) {
	inBothWays(t, func(t *testing.T, churn bool) {
		c := filled(2, churn, "a", "b", "c", "d")
		c.Drop()
		c.Remove(c.Keys()[0])
		c.Request("e")
		c.Resize(0)
		if got := c.Ghosts(); len(got) != 0 {
			t.Errorf("the ghosts are %q", got)
		}
	})
}

// P6.1: the empty key is a key like any other, told from none by the true beside it.
func TestEmptyKey(t *testing.T) {
	inBothWays(t, func(t *testing.T, churn bool) {
		c := New(2, churn)
		ask(t, c, "", miss)
		check(t, "alone", c, "1")
		ask(t, c, "", hit)
		check(t, "twice", c, "2")
		for range 3 {
			c.Request("a")
		}
		ask(t, c, "b", wentFor(""))
		checkGone(t, "who went", c, "")
		if c.Remove("") {
			t.Error("the empty key was resident")
		}
		c.Drop()
		if !c.Adopt("") || c.Adopt("") {
			t.Error("Adopt of the empty key")
		}
		check(t, "adopted", c, "1", "a3")
		if key, ok := c.Drop(); key != "" || !ok {
			t.Errorf("Drop is %q, %v", key, ok)
		}
		c.Request("")
		if !c.Remove("") || c.Remove("") {
			t.Error("Remove of the empty key")
		}
		c.Request("")
		resize(t, c, 0, "", "a")
	})
}

// P6.1: keys are bytes, texts or not, of any length, and each byte counts.
func TestKeysThatAreNoTexts(t *testing.T) {
	keys := []string{"\xff", "\xfe", "\xff\xfe", "\x00", "\x00\x00", "\xc3", "\ufffd", "\xed\xa0\x80", strings.Repeat("\x80", 1000), strings.Repeat("\x80", 1001)}
	inBothWays(t, func(t *testing.T, churn bool) {
		c := New(len(keys), churn)
		var row []resident
		for _, key := range keys {
			ask(t, c, key, miss)
			if churn {
				row = slices.Insert(row, 0, resident{key, 1})
			} else {
				row = append(row, resident{key, 1})
			}
			checkRow(t, "no text", c, row)
		}
		first, second, last := row[0].key, row[1].key, row[len(row)-1].key
		ask(t, c, last, hit)
		ask(t, c, "", wentFor(first))
		checkGone(t, "who went", c, first)
		if !c.Remove(second) || c.Has(second) || !c.Adopt(second) || c.Times(second) != 1 {
			t.Errorf("Remove and Adopt of %q", second)
		}
		ask(t, c, second, hit)
		ask(t, c, "", hit)
		gone := c.Resize(3)
		if len(gone) != len(keys)-3 || gone[0] != row[2].key {
			t.Errorf("%q went", gone)
		}
		want := []resident{{last, 2}, {second, 2}, {"", 2}}
		if churn {
			slices.Reverse(want)
		}
		checkRow(t, "left", c, want)
	})
}

// A cache keeps nothing of another one, of the other way neither.
func TestCachesApart(t *testing.T) {
	one, other := New(2, true), New(3, false)
	one.Request("a")
	one.Request("a")
	other.Request("b")
	other.Request("a")
	check(t, "one", one, "a2")
	one.Remove("a")
	one.Resize(0)
	check(t, "one", one)
	check(t, "the other", other, "b1", "a1")
	ask(t, other, "c", miss)
}
