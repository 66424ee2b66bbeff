package inst

import (
	"slices"
	"strconv"
	"strings"
	"testing"

	"cachewise/api"
)

// P11.1: each kind's instance goes by its own policy, or learner, told by who stays, who went, and in which order they would go: behind a hit, misses with room left, and one with none.
func TestKindsApart(t *testing.T) {
	for kind, s := range []struct{ victim, residents, ghosts string }{
		{"a", "cbd", ""}, {"c", "dab", ""}, {"c", "dba", ""}, {"c", "adb", "c"}, {"c", "dab", "c"}, {"a", "cbd", "a"}, {"c", "adb", "c"},
	} {
		x := made(t, kind, 3, low)
		for i, key := range letters("aabcbd") {
			ask(t, x, key, []api.Step{miss, hit, miss, miss, hit, wentFor(s.victim)}[i])
		}
		check(t, named(kind, 3), x, kind, 3, s.residents, s.ghosts)
		checkCount(t, named(kind, 3), x, 6, 2)
	}
	// The draw lets the second expert choose: LFU, or CR-LFU.
	for kind, s := range map[int]struct{ residents, ghosts string }{api.LeCaR: {"abd", "c"}, api.Cacheus: {"adb", "c"}} {
		x := filled(t, kind, 3, "aabcb", high)
		ask(t, x, "d", wentFor("c"))
		check(t, named(kind, 3), x, kind, 3, s.residents, s.ghosts)
	}
}

// P11.1: a ghost that is asked for is a miss, by which ARC and SR-LRU learn how to part their rows, and a learner whom to follow.
func TestGhostAsked(t *testing.T) {
	for kind, s := range []struct {
		step              api.Step
		residents, ghosts string
	}{
		{hit, "bdc", ""}, {wentFor("d"), "cab", ""}, {wentFor("d"), "cba", ""}, {wentFor("a"), "dbc", "a"}, {wentFor("a"), "dbc", "a"},
		{hit, "bdc", "a"}, {wentFor("d"), "acb", "d"},
	} {
		x := filled(t, kind, 3, "aabcbd", low, high)
		ask(t, x, "c", s.step)
		check(t, "c, "+named(kind, 3), x, kind, 3, s.residents, s.ghosts)
	}
	x := filled(t, api.LeCaR, 3, "aabcbd", low, high)
	ask(t, x, "a", wentFor("c"))
	check(t, "a", x, api.LeCaR, 3, "bda", "c")
	if w, _ := x.Weight(); w >= half {
		t.Errorf("the weight is %d", w)
	}
	checkCount(t, "a", x, 7, 2)
}

// P11.1: of the same times, kind 1 lets the one go that was asked for the longest ago, and kind 2 the one that was asked for last.
func TestTwoWaysOfLFU(t *testing.T) {
	for kind, residents := range map[int]string{api.LFU: "abc", api.CRLFU: "cba"} {
		x := filled(t, kind, 3, "abc")
		check(t, named(kind, 3), x, kind, 3, residents, "")
		ask(t, x, "d", wentFor(residents[:1]))
		resize(t, filled(t, kind, 3, "abc"), 0, residents)
	}
}

// scenes are requests, a letter each, of instances of a size: with none, with room left, with none left, and with no room at all.
var scenes = []struct {
	most int
	keys string
}{
	{3, ""}, {3, "a"}, {4, "aab"}, {6, "abcab"}, {3, "abc"}, {3, "aabcbd"}, {4, "aabbcdefcgha"}, {1, "abca"}, {2, "aabcb"}, {0, ""}, {0, "aab"},
}

// draws pick now the one expert, and now the other.
var draws = []uint64{low, high, high, low, high, low, low, high, high, low}

// changes are all of them but Resize: each tells what it answered, in words.
var changes = map[string]func(c cache, key string) string{
	"Request": func(c cache, key string) string {
		s := c.Request(key)
		return strconv.FormatBool(s.Hit) + " " + s.Victim + " " + strconv.FormatBool(s.Out)
	},
	"Remove": func(c cache, key string) string { return strconv.FormatBool(c.Remove(key)) },
	"Adopt":  func(c cache, key string) string { return strconv.FormatBool(c.Adopt(key)) },
	"Drop": func(c cache, key string) string {
		went, ok := c.Drop()
		return went + " " + strconv.FormatBool(ok)
	},
	"nothing": func(c cache, key string) string { return "" },
}

// P11.1: each change, from each scene on, of residents, ghosts and neither, answers as the policy does, or the learner, and leaves what that has.
func TestChanges(t *testing.T) {
	inEachKind(t, func(t *testing.T, kind int) {
		for _, s := range scenes {
			for name, change := range changes {
				for _, key := range append(letters("abcdefghx"), "") {
					x, c := both(t, kind, s.most, s.keys, draws...)
					what := name + " of " + strconv.Quote(key) + " behind " + s.keys
					checkOwn(t, "filled with "+s.keys, x, c)
					if got, want := change(x, key), change(c, key); got != want {
						t.Errorf("%s: %s; want %s", what, got, want)
					}
					checkOwn(t, what, x, c)
					for _, key := range letters("xaybzc") {
						ask(t, x, key, c.Request(key))
						checkOwn(t, what+", and on", x, c)
					}
				}
			}
		}
	})
}

// P11.1: Drop, one by one, lets all go that Victim told, till nobody is left.
func TestDropAll(t *testing.T) {
	inEachKind(t, func(t *testing.T, kind int) {
		for _, s := range scenes {
			x, c := both(t, kind, s.most, s.keys, draws...)
			for x.Len() > 0 {
				victim, _ := c.Drop()
				drop(t, x, victim)
				checkOwn(t, "dropped", x, c)
				if t.Failed() {
					return
				}
			}
			dropNone(t, x)
			dropNone(t, x)
			checkOwn(t, "none is left", x, c)
		}
	})
}

// P11.1: Remove, Adopt, Victim and Drop of each kind, told by who stays: behind them a ghost is adopted, which is none any more.
func TestRemoveAdoptDrop(t *testing.T) {
	for kind, s := range []struct {
		removed, victim, left, ghosts, adopted string
	}{
		{"c", "b", "d", "", "dc"}, {"b", "d", "a", "", "ca"}, {"b", "d", "a", "", "ca"}, {"b", "a", "d", "c", "dc"}, {"b", "d", "a", "c", "ca"},
		{"c", "b", "d", "a", "dc"}, {"b", "a", "d", "c", "dc"},
	} {
		x := filled(t, kind, 3, "aabcbd", low)
		adopt(t, x, "x", false)
		adopt(t, x, "d", false)
		remove(t, x, "x", false)
		remove(t, x, s.removed, true)
		drop(t, x, s.victim)
		check(t, "two went, "+named(kind, 3), x, kind, 3, s.left, s.ghosts)
		if kind == api.LeCaR {
			remove(t, x, "a", false)
		}
		adopt(t, x, "c", true)
		adopt(t, x, "c", false)
		check(t, "c is adopted, "+named(kind, 3), x, kind, 3, s.adopted, "")
	}
}

// P11.1: with no room at all nothing comes, and nothing goes.
func TestNoRoom(t *testing.T) {
	inEachKind(t, func(t *testing.T, kind int) {
		x := made(t, kind, 0)
		for _, key := range letters("aabca") {
			ask(t, x, key, miss)
			adopt(t, x, key, false)
			remove(t, x, key, false)
			dropNone(t, x)
			resize(t, x, 0, "")
			check(t, "behind "+key, x, kind, 0, "", "")
		}
		resize(t, x, 1, "")
		ask(t, x, "a", miss)
		ask(t, x, "a", hit)
		check(t, "room for one", x, kind, 1, "a", "")
	})
}

// P11.1: Resize to more, to as many, to fewer and to none tells all that the policy's does, or the learner's, in order, and leaves what that has.
func TestResize(t *testing.T) {
	inEachKind(t, func(t *testing.T, kind int) {
		for _, s := range scenes {
			for _, most := range append([]int{s.most, s.most + 1, max(s.most-1, 0)}, sizes...) {
				x, c := both(t, kind, s.most, s.keys, draws...)
				name := "resized to " + strconv.Itoa(most) + " behind " + s.keys
				for range 2 {
					want, _ := c.Resize(most)
					if got, err := x.Resize(most); !slices.Equal(got, want) || err != nil {
						t.Errorf("%s: %q, %v; want %q", name, got, err, want)
					}
					checkOwn(t, name, x, c)
					checkSize(t, name, x, kind, most)
				}
				for _, key := range letters("xaybzc") {
					ask(t, x, key, c.Request(key))
					checkOwn(t, name+", and on", x, c)
				}
			}
		}
	})
}

// P11.1: who went at a Resize, of each kind.
func TestGoneByResize(t *testing.T) {
	for kind, s := range []struct{ one, two, all string }{
		{"c", "cb", "cbd"}, {"d", "da", "dab"}, {"d", "db", "dba"}, {"a", "ad", "adb"}, {"d", "da", "dab"}, {"c", "cb", "cbd"}, {"a", "ad", "adb"},
	} {
		for most, gone := range []string{s.all, s.two, s.one, "", ""} {
			x := filled(t, kind, 3, "aabcbd", low)
			resize(t, x, most, gone)
			resize(t, x, most, "")
			if x.Len() != min(most, 3) || x.Most() != most || x.Kind() != kind {
				t.Errorf("%s: %d residents of %d", named(kind, most), x.Len(), x.Most())
			}
		}
		x := filled(t, kind, 3, "aabcbd", low)
		resize(t, x, api.MaxCap, "")
		for i := range 3000 {
			ask(t, x, strconv.Itoa(i), miss)
		}
		if x.Len() != 3003 || x.Most() != api.MaxCap {
			t.Errorf("%s: %d residents of %d", named(kind, api.MaxCap), x.Len(), x.Most())
		}
	}
}

// P11.1: a Resize to what is no size is the fault of the policy's, or the learner's, that isn't wrapped, beside which nobody goes, and all is as it was.
func TestResizeToNoSize(t *testing.T) {
	inEachKind(t, func(t *testing.T, kind int) {
		for _, s := range scenes {
			for _, most := range none {
				x, c := both(t, kind, s.most, s.keys, draws...)
				name := "Resize to " + strconv.Itoa(most) + " behind " + s.keys
				gone, err := x.Resize(most)
				if len(gone) != 0 {
					t.Errorf("%s: %q went", name, gone)
				}
				checkFault(t, name, err, "resize", "", api.ErrRange)
				checkOwn(t, name, x, c)
				for _, key := range letters("xay") {
					ask(t, x, key, c.Request(key))
					checkOwn(t, name+", and on", x, c)
				}
			}
		}
	})
}

// P11.1: no two answers share memory, and none is the instance's own.
func TestAnswersAreNew(t *testing.T) {
	inEachKind(t, func(t *testing.T, kind int) {
		x, c := both(t, kind, 4, "aabbcdefgh", low, low, high, high)
		keys, others, ghosts, more := x.Keys(), x.Keys(), x.Ghosts(), x.Ghosts()
		keys[0], keys[3] = "x", "y"
		_ = append(others[:1], "z")
		if len(ghosts) > 0 {
			ghosts[0] = "w"
			_ = append(more[:0], "z")
		}
		checkOwn(t, "answers changed", x, c)
		gone, err := x.Resize(2)
		c.Resize(2)
		if err != nil || len(gone) != 2 {
			t.Fatalf("Resize to 2 is %q, %v", gone, err)
		}
		gone[0], gone[1] = "x", "y"
		checkOwn(t, "who went changed", x, c)
	})
}

// P11.1, P11.2: the empty key is one like any other, told from none by the true beside it.
func TestEmptyKey(t *testing.T) {
	inEachKind(t, func(t *testing.T, kind int) {
		x := made(t, kind, 1)
		ask(t, x, "", miss)
		ask(t, x, "", hit)
		checkCount(t, "it came", x, 2, 1)
		adopt(t, x, "", false)
		checkKeys(t, "it came", x, []string{""}, nil)
		ask(t, x, "a", wentFor(""))
		if x.Has("") {
			t.Error("the empty key went, and is resident")
		}
		ask(t, x, "", wentFor("a"))
		drop(t, x, "")
		remove(t, x, "a", false)
		dropNone(t, x)
		adopt(t, x, "", true)
		if gone, err := x.Resize(0); !slices.Equal(gone, []string{""}) || err != nil {
			t.Errorf("%q went, %v", gone, err)
		}
		resize(t, x, 1, "")
		ask(t, x, "", miss)
		remove(t, x, "", true)
		remove(t, x, "", false)
		checkKeys(t, "removed", x, nil, nil)
		checkCount(t, "removed", x, 5, 1)
	})
}

// P11.1, P11.2: keys are bytes, texts or not, of any length, and each byte counts.
func TestKeysOfAnyBytes(t *testing.T) {
	keys := []string{"\xff", "\xfe", "\xff\xfe", "\x00", "\x00\x00", "\xc3", "\ufffd", "\xed\xa0\x80", strings.Repeat("\x80", 1000), strings.Repeat("\x80", 1001)}
	inEachKind(t, func(t *testing.T, kind int) {
		x, c := both(t, kind, len(keys), "")
		for i, key := range keys {
			c.Request(key)
			ask(t, x, key, miss)
			checkCount(t, key, x, i+1, 0)
			if x.Len() != i+1 || !x.Has(key) {
				t.Errorf("%q: %d residents", key, x.Len())
			}
		}
		for i, key := range keys {
			c.Request(key)
			ask(t, x, key, hit)
			checkCount(t, key, x, len(keys)+i+1, i+1)
		}
		checkOwn(t, "all, twice", x, c)
		remove(t, x, keys[9], c.Remove(keys[9]))
		adopt(t, x, keys[9], c.Adopt(keys[9]))
		checkOwn(t, "one came back", x, c)
		want, _ := c.Resize(2)
		if gone, err := x.Resize(2); !slices.Equal(gone, want) || err != nil {
			t.Errorf("%q went, %v", gone, err)
		}
		for _, key := range keys {
			ask(t, x, key, c.Request(key))
			checkOwn(t, "two are left", x, c)
		}
	})
}
