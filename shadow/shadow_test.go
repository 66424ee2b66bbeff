package shadow

import (
	"errors"
	"strconv"
	"testing"

	"cachewise/api"
	"cachewise/draw"
)

// P12.1: the chapter's example: of a shift of 0 all keys are sampled.
func TestExample(t *testing.T) {
	s := made(t, 3000, 0, 5000, draw.New())
	for i := range 2000 {
		s.Request(strconv.Itoa(i))
		if got := s.Misses(); got != all(i+1) {
			t.Fatalf("key %d: the misses are %d", i, got)
		}
	}
}

// P12.1: a new shadow has no residents, misses or scores, a whole window is left, and it took no draw.
func TestNew(t *testing.T) {
	for _, size := range sizes {
		for _, shift := range shifts {
			for _, window := range windows {
				tape := draw.New(chances(1, 3)...)
				s := made(t, size, shift, window, tape)
				name := "size " + strconv.Itoa(size) + ", shift " + strconv.Itoa(shift)
				checkCounts(t, name, s, numbers{}, numbers{}, window)
				checkKeys(t, name, s, [api.Kinds]string{})
				if want := max(size/(1<<shift), 1); s.Most() != want {
					t.Errorf("%s: there may be %d residents; want %d", name, s.Most(), want)
				}
				for lane := range api.Kinds + 1 {
					if tape.Left(lane) != 3 {
						t.Errorf("%s: %d draws are left in %d", name, tape.Left(lane), lane)
					}
				}
			}
		}
	}
}

// P12.1: the size of each instance is moved down by the shift, cut down, but 1 at least.
func TestMost(t *testing.T) {
	for _, x := range []struct{ size, shift, want int }{
		{0, 0, 1}, {1, 0, 1}, {2, 0, 2}, {3, 0, 3}, {40, 0, 40}, {api.MaxCap, 0, api.MaxCap},
		{0, 1, 1}, {1, 1, 1}, {2, 1, 1}, {3, 1, 1}, {4, 1, 2}, {5, 1, 2}, {41, 1, 20},
		{3, 2, 1}, {4, 2, 1}, {7, 2, 1}, {8, 2, 2}, {31, 3, 3}, {32, 3, 4},
		{0, 16, 1}, {1, 16, 1}, {65535, 16, 1}, {65536, 16, 1}, {131071, 16, 1}, {131072, 16, 2}, {196607, 16, 2}, {196608, 16, 3},
		{api.MaxCap, 1, api.MaxCap / 2}, {api.MaxCap - 1, 1, api.MaxCap/2 - 1}, {api.MaxCap, 16, 256}, {api.MaxCap - 1, 16, 255},
	} {
		name := "size " + strconv.Itoa(x.size) + ", shift " + strconv.Itoa(x.shift)
		keys := sampled(x.shift, min(x.want+2, max(60>>x.shift, 4)))
		checkMost(t, name, made(t, x.size, x.shift, 1000, draw.New()), keys, x.want)
		// So it is by Resize too.
		for _, other := range []int{0, 300, api.MaxCap} {
			s := made(t, other, x.shift, 1000, draw.New())
			resize(t, s, x.size)
			checkMost(t, name+", resized", s, keys, x.want)
		}
	}
}

// checkNoShadow asks for New's fault, beside which there is no shadow.
func checkNoShadow(t *testing.T, size, shift, window int) {
	t.Helper()
	tape := draw.New(chances(1, 3)...)
	s, err := New(size, shift, window, tape)
	name := "size " + strconv.Itoa(size) + ", shift " + strconv.Itoa(shift) + ", window " + strconv.Itoa(window)
	if s != nil {
		t.Errorf("%s: %v", name, s)
	}
	checkFault(t, name, err, "shadow")
	if !errors.Is(err, api.ErrRange) || errors.Is(err, api.ErrKind) {
		t.Errorf("%s: %v", name, err)
	}
	for lane := range api.Kinds + 1 {
		if tape.Left(lane) != 3 {
			t.Errorf("%s: %d draws are left in %d", name, tape.Left(lane), lane)
		}
	}
}

// P12.1: with one of the three out of its range there is no shadow.
func TestOneIsWrong(t *testing.T) {
	for _, size := range sizes {
		for _, shift := range shifts {
			for _, window := range noWindows {
				checkNoShadow(t, size, shift, window)
			}
		}
		for _, window := range windows {
			for _, shift := range noShifts {
				checkNoShadow(t, size, shift, window)
			}
		}
	}
	for _, size := range noSizes {
		for _, shift := range shifts {
			for _, window := range windows {
				checkNoShadow(t, size, shift, window)
			}
		}
	}
}

// P12.1: with two of the three, or all, out of their ranges there is none either, and it is the same fault.
func TestMoreAreWrong(t *testing.T) {
	for _, size := range noSizes {
		for _, shift := range noShifts {
			checkNoShadow(t, size, shift, 1)
			for _, window := range noWindows {
				checkNoShadow(t, size, shift, window)
			}
		}
	}
	for _, window := range noWindows {
		for _, size := range noSizes {
			checkNoShadow(t, size, 0, window)
		}
		for _, shift := range noShifts {
			checkNoShadow(t, 1, shift, window)
		}
	}
}

// P12.1, P12.2: a fault tells all in words, and one that was changed doesn't come again.
func TestFaultsAreNew(t *testing.T) {
	for range 3 {
		_, err := New(-1, 0, 1, draw.New())
		if err == nil || err.Error() != `shadow "": cachewise: 1` {
			t.Fatal(err)
		}
		*err.(*api.Fault) = api.Fault{Op: "other", Key: "x", Err: api.ErrForm}
		err = made(t, 1, 0, 1, draw.New()).Resize(-1)
		if err == nil || err.Error() != `resize "": cachewise: 1` {
			t.Fatal(err)
		}
		*err.(*api.Fault) = api.Fault{Op: "other", Key: "x", Err: api.ErrForm}
	}
}

// P12.1: a run that was worked out by hand: hits and misses of each kind, and the scores at the ends of windows of 4.
func TestByHand(t *testing.T) {
	s := made(t, 3, 0, 4, learning(low, high))
	none, three := numbers{}, all(3)
	for i, x := range []struct {
		key            string
		ends           bool
		misses, scores numbers
	}{
		{"a", false, all(1), none},
		{"a", false, all(1), none},
		{"b", false, all(2), none},
		{"c", true, none, three},
		{"b", false, none, three},
		{"d", false, all(1), three},
		// LRU and LeCaR let a go for d, the others c.
		{"c", false, numbers{1, 2, 2, 2, 2, 1, 2}, three},
		// For c went d, of LFU, CR-LFU and CACHEUS, and a, of SR-LRU and ARC.
		{"d", true, none, numbers{2, 4, 4, 3, 3, 2, 4}},
		{"b", false, none, numbers{2, 4, 4, 3, 3, 2, 4}},
		{"b", false, none, numbers{2, 4, 4, 3, 3, 2, 4}},
		{"b", false, none, numbers{2, 4, 4, 3, 3, 2, 4}},
		{"b", true, none, numbers{1, 2, 2, 1, 1, 1, 2}},
		{"x", false, all(1), numbers{1, 2, 2, 1, 1, 1, 2}},
		{"x", false, all(1), numbers{1, 2, 2, 1, 1, 1, 2}},
		{"x", false, all(1), numbers{1, 2, 2, 1, 1, 1, 2}},
		{"x", true, none, numbers{1, 2, 2, 1, 1, 1, 2}},
		{"x", false, none, numbers{1, 2, 2, 1, 1, 1, 2}},
		{"x", false, none, numbers{1, 2, 2, 1, 1, 1, 2}},
		{"x", false, none, numbers{1, 2, 2, 1, 1, 1, 2}},
		{"x", true, none, numbers{0, 1, 1, 0, 0, 0, 1}},
	} {
		ask(t, s, x.key, x.ends)
		checkCounts(t, "request "+strconv.Itoa(i), s, x.misses, x.scores, 4-(i+1)%4)
	}
}

// P12.1: who is resident behind such a run, by kinds.
func TestResidentsByHand(t *testing.T) {
	s := filled(t, 3, "aabcb", low, high)
	checkKeys(t, "no one went", s, [api.Kinds]string{"acb", "cab", "cba", "cab", "cab", "acb", "cab"})
	s.Request("d")
	checkKeys(t, "one went", s, [api.Kinds]string{"cbd", "dab", "dba", "adb", "dab", "cbd", "adb"})
	s.Request("c")
	checkKeys(t, "c came again", s, [api.Kinds]string{"bdc", "cab", "cba", "dbc", "dbc", "bdc", "acb"})
}

// P12.1: a window ends with each so-manieth request, whether or not what is asked for is sampled, and with no other one.
func TestWindowEnds(t *testing.T) {
	in, out := sampled(2, 5), unsampled(2, 5)
	for _, window := range []int{1, 2, 3, 4, 7, 64, 1000} {
		for name, key := range map[string]func(i int) string{
			"sampled":    func(i int) string { return in[i%5] },
			"the same":   func(i int) string { return in[0] },
			"unsampled":  func(i int) string { return out[i%5] },
			"by turns":   func(i int) string { return [2]string{in[i%5], out[i%5]}[i%2] },
			"by chance":  func(i int) string { return [2]string{in[i%5], out[i%5]}[next(uint64(i))>>40%2] },
			"last is in": func(i int) string { return map[bool]string{false: out[0], true: in[0]}[(i+1)%window == 0] },
			"last isn't": func(i int) string { return map[bool]string{false: in[0], true: out[0]}[(i+1)%window == 0] },
		} {
			s := made(t, 9, 2, window, draw.New())
			for i := range max(4*window+2, 20) {
				if s.Left() != window-i%window {
					t.Errorf("%s, window %d, ahead of request %d: %d are left", name, window, i, s.Left())
				}
				ask(t, s, key(i), (i+1)%window == 0)
				if t.Failed() {
					t.Fatalf("%s, window %d, request %d", name, window, i)
				}
			}
		}
	}
}

// P12.1: the greatest window has 2^20 requests.
func TestGreatestWindow(t *testing.T) {
	s := made(t, 9, 16, 1<<20, draw.New())
	key := unsampled(16, 1)[0]
	for range 2 {
		for i := range 1<<20 - 1 {
			if s.Left() != 1<<20-i || s.Request(key) {
				t.Fatalf("request %d: %d are left", i, s.Left())
			}
		}
		checkCounts(t, "one is left", s, numbers{}, numbers{}, 1)
		ask(t, s, key, true)
		checkCounts(t, "it ended", s, numbers{}, numbers{}, 1<<20)
	}
}

// P12.1: at each window's end each score is half of what it was, cut down, and the misses, which are 0 then; the scores stand still between.
func TestScores(t *testing.T) {
	// There is room for all: a key is missed the first time that it comes, and never again.
	s := made(t, 1000, 0, 8, draw.New())
	fresh, score := 0, 0
	for i, x := range []struct{ misses, score int }{
		{1, 1}, {0, 0}, {3, 3}, {0, 1}, {0, 0}, {5, 5}, {8, 10}, {8, 13}, {8, 14}, {8, 15}, {8, 15}, {7, 14},
		{0, 7}, {0, 3}, {0, 1}, {1, 1}, {1, 1}, {2, 2}, {2, 3}, {2, 3}, {1, 2}, {0, 1}, {0, 0}, {0, 0}, {6, 6},
	} {
		for j := range 8 {
			checkCounts(t, "window "+strconv.Itoa(i), s, all(min(j, x.misses)), all(score), 8-j)
			if j < x.misses {
				fresh++
			}
			ask(t, s, strconv.Itoa(fresh), j == 7)
		}
		score = x.score
		checkCounts(t, "end of window "+strconv.Itoa(i), s, numbers{}, all(score), 8)
	}
}

// P12.1: windows of one request end with each one.
func TestWindowOfOne(t *testing.T) {
	s := made(t, 2, 0, 1, draw.New())
	for i, x := range []struct {
		key   string
		score int
	}{{"a", 1}, {"b", 1}, {"a", 0}, {"a", 0}, {"b", 0}, {"c", 1}, {"c", 0}} {
		ask(t, s, x.key, true)
		checkCounts(t, "request "+strconv.Itoa(i), s, numbers{}, all(x.score), 1)
	}
}

// P12.1: who tells misses and scores can't change them.
func TestNumbersAreNew(t *testing.T) {
	s := filled(t, 3, "abc")
	misses, scores := s.Misses(), s.Scores()
	misses[0], scores[6] = 77, 78
	checkCounts(t, "answers changed", s, all(3), numbers{}, 997)
	if misses != (numbers{77, 3, 3, 3, 3, 3, 3}) || scores != (numbers{6: 78}) {
		t.Errorf("the answers are %d, %d", misses, scores)
	}
}
