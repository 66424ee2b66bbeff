package choose

import (
	"strconv"
	"testing"

	"cachewise/api"
)

// who are they by whom none is told, and what was counted is gone.
func who() map[string]asking {
	return map[string]asking{
		"a pin":               pin,
		"a move":              move,
		"both":                both,
		"the best one":        best,
		"just the margin":     {scores: left, now: 2},
		"one of several":      {scores: all(8), now: 6},
		"below 0":             {scores: left, now: -1},
		"above 6":             {scores: left, now: api.Kinds},
		"the best and a pin":  {scores: left, now: 3, pinned: true},
		"the best and a move": {scores: left, now: 3, moving: true},
		"the best and both":   {scores: left, now: 3, pinned: true, moving: true},
		"none and both":       {scores: left, now: -1, pinned: true, moving: true},
	}
}

// P13.2: where there is a pin, or a move goes on, or the kind isn't beaten, none is told and nothing is counted, however often.
func TestNone(t *testing.T) {
	for name, x := range who() {
		for _, hold := range holds {
			s := made(t, 2, hold)
			for range 70 {
				none(t, name+", hold "+strconv.Itoa(hold), s, x, 0)
			}
		}
	}
}

// P13.2: what was counted is gone behind each of these, and is counted anew.
func TestGone(t *testing.T) {
	for name, x := range who() {
		for _, hold := range holds {
			name := name + ", hold " + strconv.Itoa(hold)
			s := made(t, 2, hold)
			for counted := range hold {
				count(t, name, s, beaten, counted)
				none(t, name, s, x, 0)
			}
			count(t, name, s, beaten, hold-1)
			told(t, name, s, beaten, 3)
			none(t, name, s, x, 0)
		}
	}
}

// P13.2: the best one is told at the window by which there are as many as the hold, and none in one fewer; then it is all asked for again.
func TestHold(t *testing.T) {
	for hold := 1; hold <= 64; hold++ {
		s := made(t, 5, hold)
		name := "hold " + strconv.Itoa(hold)
		for range 3 {
			count(t, name, s, beaten, hold-1)
			told(t, name, s, beaten, 3)
		}
	}
}

// P13.2: a row that is broken off in its midst, and just ahead of its end, and begun anew.
func TestBrokenOff(t *testing.T) {
	s := made(t, 2, 4)
	none(t, "one", s, beaten, 1)
	none(t, "two", s, beaten, 2)
	none(t, "not beaten", s, best, 0)
	none(t, "one again", s, beaten, 1)
	none(t, "two again", s, beaten, 2)
	none(t, "three again", s, beaten, 3)
	none(t, "a pin", s, pin, 0)
	none(t, "one anew", s, beaten, 1)
	none(t, "two anew", s, beaten, 2)
	none(t, "three anew", s, beaten, 3)
	told(t, "four", s, beaten, 3)
	none(t, "behind", s, beaten, 1)
	none(t, "a move", s, move, 0)
	none(t, "both", s, both, 0)
}

// P13.2: the best one of the last window is told, whatever was the best one ahead.
func TestLastBest(t *testing.T) {
	for last := range api.Kinds {
		s := made(t, 1, 3)
		now := (last + 3) % api.Kinds
		for i := range 2 {
			scores := all(9)
			scores[(last+1+i)%api.Kinds] = 2
			none(t, "ahead of "+strconv.Itoa(last), s, asking{scores: scores, now: now}, i+1)
		}
		scores := all(9)
		scores[last] = 2
		told(t, "the last", s, asking{scores: scores, now: now}, last)
	}
}

// P13.2: of several the lowest one is told; 0 is told as any other, beside a true.
func TestLowestIsTold(t *testing.T) {
	for one := range api.Kinds {
		for other := range api.Kinds {
			for now := range api.Kinds {
				if now == one || now == other {
					continue
				}
				scores := all(6)
				scores[one], scores[other] = 4, 4
				told(t, "of two", made(t, 1, 1), asking{scores: scores, now: now}, min(one, other))
			}
		}
	}
}

// P13.2: a window counts by the kind that is followed in it, be it another one than ahead.
func TestAnotherIsFollowed(t *testing.T) {
	s := made(t, 2, 3)
	none(t, "0", s, beaten, 1)
	none(t, "6", s, asking{scores: left, now: 6}, 2)
	told(t, "5", s, asking{scores: left, now: 5}, 3)
	none(t, "6", s, asking{scores: left, now: 6}, 1)
	none(t, "1: not by more than the margin", s, asking{scores: left, now: 1}, 0)
}

// P13.2: how far a kind is beaten plays no part, if it is so by more than the margin: just the windows count.
func TestHowFar(t *testing.T) {
	s := made(t, 10, 3)
	for _, x := range []struct{ score, counted int }{
		{111, 1}, {1 << 40, 2}, {110, 0}, {1 << 40, 1}, {111, 2}, {100, 0}, {112, 1}, {200, 2},
	} {
		scores := all(100)
		scores[5] = x.score
		none(t, strconv.Itoa(x.score), s, asking{scores: scores, now: 5}, x.counted)
	}
	scores := all(100)
	scores[5], scores[0] = 111, 101
	told(t, "the last", s, asking{scores: scores, now: 5}, 1)
}

// P13.3: with a hold of 1 nothing ever is counted, and one is told just if there is no pin, no move goes on, and the kind is beaten.
func TestHoldOfOne(t *testing.T) {
	for _, margin := range margins {
		s := made(t, margin, 1)
		for now := -2; now < api.Kinds+2; now++ {
			for _, more := range []int{0, 1, margin, margin + 1, margin + 2, 1 << 40} {
				for i := range 4 {
					x := asking{scores: numbers{50, 20, 20, 50, 30, 30, 40}, now: now, pinned: i&1 > 0, moving: i&2 > 0}
					if now >= 0 && now < api.Kinds && now != 1 {
						x.scores[now] = 20 + more
					}
					name := "margin " + strconv.Itoa(margin) + ", now " + strconv.Itoa(now) + ", more " + strconv.Itoa(more)
					if i == 0 && Beaten(x.scores, now, margin) {
						told(t, name, s, x, Best(x.scores))
					} else {
						none(t, name, s, x, 0)
					}
				}
			}
		}
	}
}

// P13.3: who is told isn't beaten by the same scores, with whatever margin; asked of it, none is told.
func TestToldIsNotBeaten(t *testing.T) {
	x := uint64(13)
	s, many := made(t, 0, 1), 0
	for range 5000 {
		var scores numbers
		for kind := range scores {
			x = next(x)
			scores[kind] = below(x, 8)
		}
		x = next(x)
		kind, ok := s.Ask(scores, below(x, api.Kinds), false, false)
		if !ok {
			continue
		}
		many++
		for _, margin := range margins {
			if Beaten(scores, kind, margin) {
				t.Fatalf("of %d %d is told, and beaten by a margin of %d", scores, kind, margin)
			}
		}
		none(t, "who was told", s, asking{scores: scores, now: kind}, 0)
	}
	if many < 1000 {
		t.Errorf("told %d times", many)
	}
}

// P13.2: two selectors know nothing of one another.
func TestTwo(t *testing.T) {
	one, other := made(t, 2, 3), made(t, 5, 2)
	none(t, "one", one, beaten, 1)
	none(t, "other", other, beaten, 1)
	none(t, "one", one, beaten, 2)
	none(t, "other, a pin", other, pin, 0)
	told(t, "one", one, beaten, 3)
	none(t, "other", other, beaten, 1)
	none(t, "one", one, asking{scores: left, now: 6}, 1)
	none(t, "other: not by more than its margin", other, asking{scores: left, now: 6}, 0)
	if one.Counted() != 1 || other.Counted() != 0 {
		t.Errorf("counted %d and %d", one.Counted(), other.Counted())
	}
}

// P13.2: an asking changes no scores of its caller's, nor does what is changed in them behind it play a part.
func TestScoresAreLeft(t *testing.T) {
	s := made(t, 2, 2)
	scores := left
	for range 4 {
		s.Ask(scores, 0, false, false)
		Best(scores)
		Beaten(scores, 0, 2)
		if scores != left {
			t.Fatalf("the scores are %d now", scores)
		}
	}
	none(t, "one", s, asking{scores: scores}, 1)
	scores = all(0)
	if s.Counted() != 1 {
		t.Errorf("counted %d", s.Counted())
	}
	scores[1] = 1
	told(t, "two", s, beaten, 3)
}
