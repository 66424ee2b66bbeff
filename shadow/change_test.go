package shadow

import (
	"errors"
	"slices"
	"strconv"
	"strings"
	"testing"

	"cachewise/api"
	"cachewise/draw"
)

// P12.2: who is removed is resident in no instance, of some of which it was a resident, and of others a ghost.
func TestRemove(t *testing.T) {
	s := filled(t, 3, "aabcbd", low)
	checkKeys(t, "filled", s, [api.Kinds]string{"cbd", "dab", "dba", "adb", "dab", "cbd", "adb"})
	for _, x := range []struct {
		key  string
		left [api.Kinds]string
	}{
		{"c", [api.Kinds]string{"bd", "dab", "dba", "adb", "dab", "bd", "adb"}},
		{"c", [api.Kinds]string{"bd", "dab", "dba", "adb", "dab", "bd", "adb"}},
		{"x", [api.Kinds]string{"bd", "dab", "dba", "adb", "dab", "bd", "adb"}},
		{"", [api.Kinds]string{"bd", "dab", "dba", "adb", "dab", "bd", "adb"}},
		{"a", [api.Kinds]string{"bd", "db", "db", "db", "db", "bd", "db"}},
		{"b", [api.Kinds]string{"d", "d", "d", "d", "d", "d", "d"}},
		{"d", [api.Kinds]string{}},
		{"d", [api.Kinds]string{}},
	} {
		s.Remove(x.key)
		checkKeys(t, x.key+" is removed", s, x.left)
		checkCounts(t, x.key+" is removed", s, all(4), numbers{}, 994)
	}
	s.Request("d")
	checkCounts(t, "d came again", s, all(5), numbers{}, 993)
	checkKeys(t, "d came again", s, [api.Kinds]string{"d", "d", "d", "d", "d", "d", "d"})
}

// P12.2: who is removed is no ghost any more: it comes as one that was never there.
func TestRemoveGhost(t *testing.T) {
	s, never := filled(t, 3, "aabcbd", low), filled(t, 3, "aabcbd", low)
	s.Remove("c")
	// In kinds 3 and 4 c is a ghost, and comes to those that were asked for again, but where it was removed.
	for _, x := range []*Shadow{s, never} {
		x.Request("c")
		x.Request("e")
	}
	for kind, want := range map[int][2]string{api.SRLRU: {"ceb", "bec"}, api.ARC: {"eab", "dec"}} {
		for i, x := range []*Shadow{s, never} {
			if got := x.Keys(kind); !slices.Equal(got, letters(want[i])) {
				t.Errorf("kind %d, %d: %q; want %s", kind, i, got, want[i])
			}
		}
	}
}

// P12.2: Remove ends no window, wherever in it.
func TestRemoveAtWindowsEnd(t *testing.T) {
	s := made(t, 3, 0, 2, draw.New())
	for range 5 {
		s.Remove("a")
	}
	checkCounts(t, "new", s, numbers{}, numbers{}, 2)
	ask(t, s, "a", false)
	for range 5 {
		s.Remove("a")
	}
	checkCounts(t, "one is left", s, all(1), numbers{}, 1)
	ask(t, s, "a", true)
	s.Remove("a")
	checkCounts(t, "it ended", s, numbers{}, all(2), 2)
}

// P12.2: who goes at a Resize, by kinds, and that misses, scores and the window stand still by it.
func TestResize(t *testing.T) {
	three := [api.Kinds]string{"cbd", "dab", "dba", "adb", "dab", "cbd", "adb"}
	one := [api.Kinds]string{"d", "b", "a", "b", "b", "d", "b"}
	for _, x := range []struct {
		size, most int
		left       [api.Kinds]string
	}{
		{0, 1, one}, {1, 1, one}, {2, 2, [api.Kinds]string{"bd", "ab", "ba", "db", "ab", "bd", "db"}},
		{3, 3, three}, {4, 4, three}, {1000, 1000, three}, {api.MaxCap, api.MaxCap, three},
	} {
		for _, window := range []int{4, 6, 7, 1000} {
			s := made(t, 3, 0, window, learning(low))
			request(s, "aabcbd")
			misses, scores, left := s.Misses(), s.Scores(), s.Left()
			for range 2 {
				resize(t, s, x.size)
				name := "resized to " + strconv.Itoa(x.size)
				checkKeys(t, name, s, x.left)
				checkCounts(t, name, s, misses, scores, left)
				if s.Most() != x.most {
					t.Errorf("%s: there may be %d residents", name, s.Most())
				}
			}
			ask(t, s, "b", left == 1)
		}
	}
}

// P12.2: it is moved down by the shadow's own shift, whatever it was ahead.
func TestResizeByShift(t *testing.T) {
	for _, shift := range []int{1, 2, 3} {
		keys := sampled(shift, 12)
		s := made(t, 3<<shift, shift, 5, draw.New())
		for _, most := range []int{3, 5, 5, 2, 10, 1, 11, 3} {
			for _, rest := range []int{0, 1, 1<<shift - 1} {
				resize(t, s, most<<shift+rest)
				checkMost(t, "shift "+strconv.Itoa(shift), s, keys, most)
			}
		}
		for _, size := range []int{0, 1, 1<<shift - 1} {
			resize(t, s, size)
			checkMost(t, "shift "+strconv.Itoa(shift), s, keys, 1)
		}
	}
}

// P12.2: with more room nobody goes till it is taken, and what a window counted goes on.
func TestResizeGoesOn(t *testing.T) {
	s := made(t, 1, 0, 6, draw.New())
	request(s, "abab")
	checkCounts(t, "room for one", s, all(4), numbers{}, 2)
	resize(t, s, 2)
	ask(t, s, "a", false)
	ask(t, s, "b", true)
	checkCounts(t, "room for two", s, numbers{}, all(5), 6)
	resize(t, s, 0)
	checkCounts(t, "and for one again", s, numbers{}, all(5), 6)
	request(s, "abab")
	if misses := s.Misses(); misses[api.LRU] < 3 || s.Scores() != all(5) || s.Left() != 2 {
		t.Errorf("the misses are %d, the scores %d, %d are left", misses, s.Scores(), s.Left())
	}
}

// P12.2: Resize to what is no size is a fault, beside which all is as it was.
func TestResizeToNoSize(t *testing.T) {
	for _, shift := range shifts {
		keys := sampled(shift, 4)
		for _, size := range noSizes {
			lanes := chances(7, 40)
			tape := draw.New(lanes...)
			s, p := made(t, 3<<shift, shift, 5, tape), plainOf(t, 3<<shift, shift, 5, lanes)
			name := "shift " + strconv.Itoa(shift) + ", size " + strconv.Itoa(size)
			for i := range 12 {
				err := s.Resize(size)
				checkFault(t, name, err, "resize")
				if !errors.Is(err, api.ErrRange) {
					t.Errorf("%s: %v", name, err)
				}
				checkPlain(t, name, s, tape, p)
				ask(t, s, keys[i*i%4], p.request(keys[i*i%4]))
			}
		}
	}
}

// P12.2: of what is no kind there are no keys.
func TestKeysOfNoKind(t *testing.T) {
	s := filled(t, 3, "aabcbd")
	for _, kind := range append([]int{7, 8, 255, 256, 1 << 32, 1<<32 + 6}, noSizes...) {
		if got := s.Keys(kind); len(got) != 0 {
			t.Errorf("kind %d has %q", kind, got)
		}
	}
	checkCounts(t, "asked", s, all(4), numbers{}, 994)
}

// P12.2: no two answers share memory, and none is an instance's own.
func TestKeysAreNew(t *testing.T) {
	s := filled(t, 3, "aabcbd", low)
	for kind := range api.Kinds {
		keys, others := s.Keys(kind), s.Keys(kind)
		keys[0], keys[2] = "x", "y"
		_ = append(others[:1], "z")
	}
	checkKeys(t, "answers changed", s, [api.Kinds]string{"cbd", "dab", "dba", "adb", "dab", "cbd", "adb"})
}

// P12.1, P12.2: the empty key is one like any other: it is sampled by no shift but 0.
func TestEmptyKey(t *testing.T) {
	s := made(t, 2, 0, 3, draw.New())
	ask(t, s, "", false)
	ask(t, s, "", false)
	checkCounts(t, "asked twice", s, all(1), numbers{}, 1)
	ask(t, s, "a", true)
	s.Remove("a")
	for kind := range api.Kinds {
		if got := s.Keys(kind); !slices.Equal(got, []string{""}) {
			t.Errorf("kind %d has %q", kind, got)
		}
	}
	s.Remove("")
	checkKeys(t, "removed", s, [api.Kinds]string{})
	ask(t, s, "", false)
	checkCounts(t, "and asked again", s, all(1), all(2), 2)
	s = made(t, 2, 1, 3, draw.New())
	for i := range 6 {
		ask(t, s, "", i%3 == 2)
	}
	s.Remove("")
	checkKeys(t, "shift of 1", s, [api.Kinds]string{})
	checkCounts(t, "shift of 1", s, numbers{}, numbers{}, 3)
}

// P12.1, P12.2: keys are bytes, texts or not, of any length, and each byte counts.
func TestKeysOfAnyBytes(t *testing.T) {
	keys := []string{"\xff", "\xfe", "\xff\xfe", "\x00", "\x00\x00", "\xc3", "\ufffd", "\xed\xa0\x80", strings.Repeat("\x80", 1000), strings.Repeat("\x80", 1001)}
	for shift := range 3 {
		lanes := chances(3, 100)
		tape := draw.New(lanes...)
		s, p := made(t, 40, shift, 7, tape), plainOf(t, 40, shift, 7, lanes)
		for i := range 30 {
			key := keys[i*i%10]
			ask(t, s, key, p.request(key))
			checkPlain(t, strconv.Quote(key), s, tape, p)
		}
		resize(t, s, 4)
		p.resize(4)
		for _, key := range keys {
			s.Remove(keys[0])
			p.remove(keys[0])
			ask(t, s, key, p.request(key))
			checkPlain(t, strconv.Quote(key), s, tape, p)
		}
	}
	s := made(t, 10, 0, 1000, draw.New())
	for i, key := range append(keys, keys...) {
		ask(t, s, key, false)
		checkCounts(t, strconv.Quote(key), s, all(min(i+1, 10)), numbers{}, 999-i)
	}
}
