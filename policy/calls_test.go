package policy

import (
	"slices"
	"strconv"
	"strings"
	"testing"

	"cachewise/api"
)

// P9.2: each kind's policy goes by its own cache, told by who stays, who went, and in which order they would go.
func TestKindsApart(t *testing.T) {
	for kind, x := range []struct{ residents, ghosts string }{{"cbd", ""}, {"dab", ""}, {"dba", ""}, {"adb", "c"}, {"dab", "c"}} {
		check(t, "kind "+strconv.Itoa(kind), filled(t, kind, 3, "aabcbd"), kind, 3, x.residents, x.ghosts)
	}
	for kind, x := range []struct {
		step              api.Step
		residents, ghosts string
	}{{hit, "bdc", ""}, {wentFor("d"), "cab", ""}, {wentFor("d"), "cba", ""}, {wentFor("a"), "dbc", "a"}, {wentFor("a"), "dbc", "a"}} {
		p := filled(t, kind, 3, "aabcbd")
		ask(t, p, "c", x.step)
		check(t, "c comes back, kind "+strconv.Itoa(kind), p, kind, 3, x.residents, x.ghosts)
	}
}

// P9.2: of the same times, kind 1 lets the one go that was asked for the longest ago, and kind 2 the one that was asked for last.
func TestTwoWaysOfLFU(t *testing.T) {
	for kind, x := range map[int]struct{ first, residents string }{api.LFU: {"a", "abc"}, api.CRLFU: {"c", "cba"}} {
		p := filled(t, kind, 3, "abc")
		check(t, "filled", p, kind, 3, x.residents, "")
		ask(t, p, "d", wentFor(x.first))
		p = filled(t, kind, 3, "abc")
		drop(t, p, x.first)
		p = filled(t, kind, 3, "abc")
		resize(t, p, 0, x.residents)
		p = filled(t, kind, 3, "aabbcc")
		check(t, "twice each", p, kind, 3, x.residents, "")
		ask(t, p, "d", wentFor(x.first))
	}
}

// scenes are requests, a letter each, of policies of a size: with none, with room left, with none left, and with no room at all.
var scenes = []struct {
	most int
	keys string
}{
	{3, ""}, {3, "a"}, {4, "aab"}, {6, "abcab"}, {3, "abc"}, {3, "aabcbd"}, {4, "aabbcdefcgha"}, {1, "abca"}, {2, "aabcb"}, {0, ""}, {0, "aab"},
}

// changes are all of them but Resize: each tells what it answered, in words.
var changes = map[string]func(c cache, key string) string{
	"Request": func(c cache, key string) string {
		s := c.Request(key)
		return strconv.FormatBool(s.Hit) + " " + s.Victim + " " + strconv.FormatBool(s.Out)
	},
	"Remove": func(c cache, key string) string { return strconv.FormatBool(c.Remove(key)) },
	"Adopt":  func(c cache, key string) string { return strconv.FormatBool(c.Adopt(key)) },
	"Drop": func(c cache, key string) string {
		went, ok := c.Drop()
		return went + " " + strconv.FormatBool(ok)
	},
	"nothing": func(c cache, key string) string { return "" },
}

// sized lets a policy's Resize, where there is no fault, be a cache's.
type sized struct{ *Policy }

func (s sized) Resize(most int) []string {
	gone, err := s.Policy.Resize(most)
	if err != nil {
		return []string{err.Error()}
	}
	return gone
}

// checkOwn holds all that a policy tells without a change against its kind's cache.
func checkOwn(t *testing.T, name string, p *Policy, c cache) {
	t.Helper()
	checkKeys(t, name, p, c.Keys(), c.Ghosts())
	for _, key := range append(letters("abcdefghx"), "") {
		if p.Has(key) != c.Has(key) {
			t.Errorf("%s: Has of %q is %v", name, key, p.Has(key))
		}
	}
	got, ok := p.Victim()
	if want, some := c.Victim(); got != want || ok != some {
		t.Errorf("%s: Victim is %q, %v; want %q, %v", name, got, ok, want, some)
	}
}

// P9.2: each change, from each scene on, answers as the kind's cache does, and leaves what that has.
func TestChanges(t *testing.T) {
	inEachKind(t, func(t *testing.T, kind int) {
		for _, s := range scenes {
			for name, change := range changes {
				for _, key := range append(letters("abcdefghx"), "") {
					p, c := filled(t, kind, s.most, s.keys), own(kind, s.most)
					for _, k := range letters(s.keys) {
						c.Request(k)
					}
					what := name + " of " + strconv.Quote(key) + " behind " + s.keys
					if got, want := change(sized{p}, key), change(c, key); got != want {
						t.Errorf("%s: %s; want %s", what, got, want)
					}
					checkOwn(t, what, p, c)
					checkSize(t, what, p, kind, s.most)
				}
			}
		}
	})
}

// P9.2: with no room at all nothing comes, and nothing goes.
func TestNoRoom(t *testing.T) {
	inEachKind(t, func(t *testing.T, kind int) {
		p := made(t, kind, 0)
		for _, key := range letters("aabca") {
			ask(t, p, key, miss)
			adopt(t, p, key, false)
			remove(t, p, key, false)
			dropNone(t, p)
			resize(t, p, 0, "")
			check(t, "behind "+key, p, kind, 0, "", "")
		}
		resize(t, p, 1, "")
		ask(t, p, "a", miss)
		ask(t, p, "a", hit)
		check(t, "room for one", p, kind, 1, "a", "")
	})
}

// P9.2: Remove, Adopt, Victim and Drop of each kind, told by who stays: behind them a ghost is adopted, which is none any more.
func TestRemoveAdoptDrop(t *testing.T) {
	for kind, x := range []struct {
		removed, victim, left, ghosts, adopted string
	}{{"c", "b", "d", "", "dc"}, {"b", "d", "a", "", "ca"}, {"b", "d", "a", "", "ca"}, {"b", "a", "d", "c", "dc"}, {"b", "d", "a", "c", "ca"}} {
		p := filled(t, kind, 3, "aabcbd")
		adopt(t, p, "x", false)
		remove(t, p, "x", false)
		remove(t, p, x.removed, true)
		drop(t, p, x.victim)
		check(t, "two went, kind "+strconv.Itoa(kind), p, kind, 3, x.left, x.ghosts)
		adopt(t, p, "c", true)
		adopt(t, p, "c", false)
		check(t, "c is adopted, kind "+strconv.Itoa(kind), p, kind, 3, x.adopted, "")
	}
}

// P9.2: Resize lets go who doesn't fit, and tells all of them, in order; with room for as many or more nobody goes.
func TestResize(t *testing.T) {
	for kind, x := range []struct{ residents, ghosts, two, one, gone, leftTwo, leftOne, ghostsTwo, ghostsOne string }{
		{"cbd", "", "c", "cb", "cbd", "bd", "d", "", ""},
		{"dab", "", "d", "da", "dab", "ab", "b", "", ""},
		{"dba", "", "d", "db", "dba", "ba", "a", "", ""},
		{"adb", "c", "a", "ad", "adb", "db", "b", "ac", "d"},
		{"dab", "c", "d", "da", "dab", "ab", "b", "dc", "d"},
	} {
		for _, s := range []struct {
			most                  int
			gone, residents, left string
		}{
			{3, "", x.residents, x.ghosts}, {4, "", x.residents, x.ghosts}, {1000, "", x.residents, x.ghosts},
			{api.MaxCap - 1, "", x.residents, x.ghosts}, {api.MaxCap, "", x.residents, x.ghosts},
			{2, x.two, x.leftTwo, x.ghostsTwo}, {1, x.one, x.leftOne, x.ghostsOne}, {0, x.gone, "", ""},
		} {
			p := filled(t, kind, 3, "aabcbd")
			name := "kind " + strconv.Itoa(kind) + " resized to " + strconv.Itoa(s.most)
			for _, gone := range []string{s.gone, "", ""} {
				resize(t, p, s.most, gone)
				check(t, name, p, kind, s.most, s.residents, s.left)
			}
			resize(t, p, 3, "")
			check(t, name+", and back", p, kind, 3, s.residents, s.left)
		}
	}
}

// P9.2: behind a Resize there is room for so many: to the last one nobody goes, and for one more one does.
func TestRoomBehindResize(t *testing.T) {
	inEachKind(t, func(t *testing.T, kind int) {
		for _, most := range []int{1, 2, 3, 4, 7, 1000} {
			p := filled(t, kind, 3, "aabcbd")
			p.Resize(0)
			resize(t, p, most, "")
			for i := range most {
				ask(t, p, strconv.Itoa(i), miss)
			}
			if s := p.Request("x"); s.Hit || !s.Out || p.Has(s.Victim) || !p.Has("x") || p.Len() != most {
				t.Errorf("of %d: one more: %+v, %d residents", most, s, p.Len())
			}
		}
		p := filled(t, kind, 3, "aabcbd")
		resize(t, p, api.MaxCap, "")
		for i := range 5000 {
			if s := p.Request(strconv.Itoa(i)); s != miss {
				t.Fatalf("with the greatest room: %+v", s)
			}
		}
		checkSize(t, "the greatest room", p, kind, api.MaxCap)
		if p.Len() != 5003 {
			t.Errorf("%d residents", p.Len())
		}
	})
}

// P9.2: a Resize to what is no size is a fault, beside which nobody goes, and all is as it was.
func TestResizeToNoSize(t *testing.T) {
	inEachKind(t, func(t *testing.T, kind int) {
		for _, s := range scenes {
			for _, most := range none {
				p, c := filled(t, kind, s.most, s.keys), own(kind, s.most)
				for _, k := range letters(s.keys) {
					c.Request(k)
				}
				gone, err := p.Resize(most)
				if len(gone) != 0 {
					t.Errorf("Resize to %d: %q went", most, gone)
				}
				name := "Resize to " + strconv.Itoa(most) + " behind " + s.keys
				checkFault(t, name, err, "resize", api.ErrRange)
				checkSize(t, name, p, kind, s.most)
				checkOwn(t, name, p, c)
				for _, key := range letters("xay") {
					ask(t, p, key, c.Request(key))
					checkOwn(t, name+", and on", p, c)
				}
			}
		}
	})
}

// P9.1, P9.2: two policies of one kind and size have nothing in common.
func TestSideBySide(t *testing.T) {
	inEachKind(t, func(t *testing.T, kind int) {
		one, other := made(t, kind, 2), made(t, kind, 2)
		ask(t, one, "a", miss)
		ask(t, other, "b", miss)
		ask(t, one, "b", miss)
		check(t, "the other", other, kind, 2, "b", "")
		ask(t, other, "b", hit)
		resize(t, other, 5, "")
		checkSize(t, "one", one, kind, 2)
		resize(t, one, 0, strings.Join(one.Keys(), ""))
		check(t, "one", one, kind, 0, "", "")
		check(t, "the other", other, kind, 5, "b", "")
		remove(t, other, "b", true)
		drop(t, filled(t, kind, 2, "c"), "c")
		check(t, "the other", other, kind, 5, "", "")
	})
}

// P9.2: no two answers share memory, and none is the policy's own.
func TestAnswersAreNew(t *testing.T) {
	inEachKind(t, func(t *testing.T, kind int) {
		p := filled(t, kind, 4, "aabbcdef")
		residents, ghosts := p.Keys(), p.Ghosts()
		keys, others, more := p.Keys(), p.Keys(), p.Ghosts()
		keys[0], keys[3] = "x", "y"
		_ = append(others[:1], "z")
		if len(more) > 0 {
			more[0] = "w"
		}
		checkKeys(t, "answers changed", p, residents, ghosts)
		gone, err := p.Resize(2)
		if err != nil || len(gone) != 2 {
			t.Fatalf("Resize to 2 is %q, %v", gone, err)
		}
		residents, ghosts = p.Keys(), p.Ghosts()
		gone[0], gone[1] = "x", "y"
		checkKeys(t, "who went changed", p, residents, ghosts)
	})
}

// P9.2, P9.4: the empty key is one like any other, told from none by the true beside it.
func TestEmptyKey(t *testing.T) {
	inEachKind(t, func(t *testing.T, kind int) {
		p := made(t, kind, 1)
		ask(t, p, "", miss)
		ask(t, p, "", hit)
		adopt(t, p, "", false)
		checkKeys(t, "it came", p, []string{""}, nil)
		ask(t, p, "a", wentFor(""))
		if p.Has("") {
			t.Error("the empty key went, and is resident")
		}
		ask(t, p, "", wentFor("a"))
		drop(t, p, "")
		remove(t, p, "a", false)
		dropNone(t, p)
		adopt(t, p, "", true)
		if gone, err := p.Resize(0); !slices.Equal(gone, []string{""}) || err != nil {
			t.Errorf("%q went, %v", gone, err)
		}
		resize(t, p, 1, "")
		ask(t, p, "", miss)
		remove(t, p, "", true)
		remove(t, p, "", false)
		checkKeys(t, "removed", p, nil, nil)
	})
}

// P9.2, P9.4: keys are bytes, texts or not, of any length, and each byte counts.
func TestKeysOfAnyBytes(t *testing.T) {
	keys := []string{"\xff", "\xfe", "\xff\xfe", "\x00", "\x00\x00", "\xc3", "\ufffd", "\xed\xa0\x80", strings.Repeat("\x80", 1000), strings.Repeat("\x80", 1001)}
	inEachKind(t, func(t *testing.T, kind int) {
		p, c := made(t, kind, len(keys)), own(kind, len(keys))
		for i, key := range keys {
			c.Request(key)
			ask(t, p, key, miss)
			if p.Len() != i+1 || !p.Has(key) {
				t.Errorf("%q: %d residents", key, p.Len())
			}
		}
		for _, key := range keys {
			c.Request(key)
			ask(t, p, key, hit)
		}
		checkOwn(t, "all, twice", p, c)
		remove(t, p, keys[9], c.Remove(keys[9]))
		adopt(t, p, keys[9], c.Adopt(keys[9]))
		checkOwn(t, "one came back", p, c)
		if gone, err := p.Resize(2); !slices.Equal(gone, c.Resize(2)) || err != nil {
			t.Errorf("%q went, %v", gone, err)
		}
		checkOwn(t, "two are left", p, c)
	})
}
