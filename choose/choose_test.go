package choose

import (
	"errors"
	"math"
	"strconv"
	"testing"

	"cachewise/api"
)

// P13.1: the chapter's example: 1 isn't the lowest of all, but of those with the least score; it beats 0, and not by more than a margin of 2.
func TestExample(t *testing.T) {
	scores := numbers{3, 1, 1, 1, 1, 1, 1}
	if got := Best(scores); got != 1 {
		t.Errorf("the best one is %d", got)
	}
	if !Beaten(scores, 0, 1) || Beaten(scores, 0, 2) {
		t.Error("Beaten")
	}
	told(t, "the example", made(t, 1, 1), asking{scores: scores}, 1)
}

// P13.1: a new selector has all of its margin and of its hold, and has counted nothing.
func TestNew(t *testing.T) {
	for _, margin := range margins {
		for _, hold := range holds {
			s := made(t, margin, hold)
			name := "margin " + strconv.Itoa(margin) + ", hold " + strconv.Itoa(hold)
			if s.Counted() != 0 {
				t.Errorf("%s: counted %d", name, s.Counted())
			}
			just, more := all(7), all(7)
			just[2], more[2] = 7+margin, 8+margin
			none(t, name, s, asking{scores: just, now: 2}, 0)
			count(t, name, s, asking{scores: more, now: 2}, hold-1)
			told(t, name, s, asking{scores: more, now: 2}, 0)
		}
	}
}

// checkNone asks for New's fault, beside which there is no selector.
func checkNone(t *testing.T, margin, hold int) {
	t.Helper()
	s, err := New(margin, hold)
	name := "margin " + strconv.Itoa(margin) + ", hold " + strconv.Itoa(hold)
	if s != nil {
		t.Errorf("%s: %v", name, s)
	}
	checkFault(t, name, err)
	if !errors.Is(err, api.ErrRange) || errors.Is(err, api.ErrKind) || errors.Is(err, api.ErrForm) {
		t.Errorf("%s: %v", name, err)
	}
}

// P13.1: with a margin or a hold out of its range, or with both, there is no selector.
func TestNewWrong(t *testing.T) {
	for _, margin := range noMargins {
		for _, hold := range holds {
			checkNone(t, margin, hold)
		}
		for _, hold := range noHolds {
			checkNone(t, margin, hold)
		}
	}
	for _, margin := range margins {
		for _, hold := range noHolds {
			checkNone(t, margin, hold)
		}
	}
}

// P13.1: margin and hold aren't taken for one another.
func TestNewOrder(t *testing.T) {
	made(t, 65, 1)
	made(t, 0, 64)
	checkNone(t, 64, 65)
	checkNone(t, 1, 0)
}

// P13.1: a fault tells all in words, and one that was changed doesn't come again.
func TestFaultsAreNew(t *testing.T) {
	for range 3 {
		_, err := New(-1, 1)
		if err == nil || err.Error() != `choose "": cachewise: 1` {
			t.Fatal(err)
		}
		*err.(*api.Fault) = api.Fault{Op: "other", Key: "x", Err: api.ErrForm}
	}
}

// P13.1: the best one has the least score, and is of several the lowest one.
func TestBest(t *testing.T) {
	for _, x := range []struct {
		scores numbers
		want   int
	}{
		{numbers{0, 1, 2, 3, 4, 5, 6}, 0},
		{numbers{6, 5, 4, 3, 2, 1, 0}, 6},
		{numbers{5, 4, 3, 2, 3, 4, 5}, 3},
		{numbers{9, 9, 1, 9, 9, 9, 9}, 2},
		{numbers{9, 1, 9, 1, 9, 9, 9}, 1},
		{numbers{9, 9, 9, 9, 9, 1, 1}, 5},
		{numbers{1, 9, 9, 9, 9, 9, 1}, 0},
		{numbers{2, 1, 1, 1, 1, 1, 1}, 1},
		{numbers{1, 2, 1, 2, 1, 2, 1}, 0},
		{numbers{2, 1, 2, 1, 2, 1, 2}, 1},
		{numbers{1, 1, 1, 0, 1, 0, 0}, 3},
		{numbers{1, 1, 1, 1, 1, 1, 0}, 6},
		{all(0), 0},
		{all(1), 0},
		{all(1 << 40), 0},
		{all(math.MaxInt), 0},
		{numbers{math.MaxInt, math.MaxInt, math.MaxInt - 1, math.MaxInt, math.MaxInt, math.MaxInt, math.MaxInt}, 2},
		{numbers{math.MaxInt, 1 << 40, 1 << 40, 1 << 33, 1<<33 - 1, 1 << 32, 1<<32 - 1}, 6},
	} {
		if got := Best(x.scores); got != x.want {
			t.Errorf("of %d the best one is %d; want %d", x.scores, got, x.want)
		}
	}
}

// P13.1: each kind may be the best one, by itself, and with each other one.
func TestBestOfTwo(t *testing.T) {
	for one := range api.Kinds {
		for other := range api.Kinds {
			scores := all(5)
			scores[one], scores[other] = 4, 4
			if got, want := Best(scores), min(one, other); got != want {
				t.Errorf("of %d the best one is %d; want %d", scores, got, want)
			}
		}
	}
}

// P13.1: a kind is beaten, if its score is more than the best one's and the margin; just as many don't do.
func TestBeaten(t *testing.T) {
	for _, margin := range margins {
		for least := range api.Kinds {
			for now := range api.Kinds {
				if now == least {
					continue
				}
				for _, x := range []struct {
					more int
					want bool
				}{{0, false}, {margin, false}, {margin + 1, true}, {margin + 2, true}, {margin * 2, margin > 0}} {
					scores := all(1 << 40)
					scores[least] = 11
					scores[now] = 11 + x.more
					if got := Beaten(scores, now, margin); got != x.want {
						t.Errorf("%d of %d, margin %d: beaten: %v", now, scores, margin, got)
					}
				}
			}
		}
	}
}

// P13.1: one with the least score is never beaten, be it the lowest one or not.
func TestBestIsNotBeaten(t *testing.T) {
	for _, margin := range margins {
		for one := range api.Kinds {
			for other := range api.Kinds {
				scores := all(1 << 40)
				scores[one], scores[other] = 3, 3
				if Beaten(scores, one, margin) || Beaten(scores, other, margin) {
					t.Errorf("%d or %d of %d, margin %d, is beaten", one, other, scores, margin)
				}
			}
			if Beaten(all(1<<40), one, margin) || Beaten(all(0), one, margin) {
				t.Errorf("%d is beaten by one that is alike, margin %d", one, margin)
			}
		}
	}
}

// P13.1: what is no kind isn't beaten, however small the margin.
func TestNoKindIsBeaten(t *testing.T) {
	for _, now := range noKinds {
		for _, margin := range []int{0, 1, 1 << 30, -1, math.MinInt, math.MaxInt} {
			for _, scores := range []numbers{all(0), all(9), {0, 9, 9, 9, 9, 9, 9}, {9, 9, 9, 9, 9, 9, 0}} {
				if Beaten(scores, now, margin) {
					t.Errorf("%d of %d, margin %d, is beaten", now, scores, margin)
				}
			}
		}
	}
}

// P13.1: so it is for the greatest scores and margins too, whose sum is no number.
func TestBeatenGreat(t *testing.T) {
	const most = math.MaxInt
	for _, x := range []struct {
		least, score, margin int
		want                 bool
	}{
		{0, most, 0, true},
		{0, most, 1 << 30, true},
		{0, most, most - 1, true},
		{0, most, most, false},
		{1, most, most, false},
		{1, most, most - 1, false},
		{1, most, most - 2, true},
		{most - 1, most, 0, true},
		{most - 1, most, 1, false},
		{most - 1, most, most, false},
		{most - 1<<30 - 1, most, 1 << 30, true},
		{most - 1<<30, most, 1 << 30, false},
		{most, most, 0, false},
		{most, most, 1 << 30, false},
		{most, most, most, false},
	} {
		scores := all(most)
		scores[4], scores[1] = x.least, x.score
		if got := Beaten(scores, 1, x.margin); got != x.want {
			t.Errorf("%d to %d, margin %d: beaten: %v", x.score, x.least, x.margin, got)
		}
	}
}

// P13.1: a margin below 0 is one that no selector has; by the words the best one is beaten by itself then.
func TestBeatenBelow(t *testing.T) {
	if !Beaten(all(4), 0, -1) || !Beaten(left, 3, -1) || !Beaten(left, 1, -1) {
		t.Error("not beaten, margin -1")
	}
}

// P13.1, P13.2: whatever scores there are, nothing panics.
func TestAnyScores(t *testing.T) {
	s := made(t, 0, 2)
	for _, scores := range []numbers{all(-1), all(math.MinInt), {math.MinInt, math.MaxInt}, {math.MaxInt, math.MinInt}} {
		for now := -2; now < api.Kinds+2; now++ {
			if kind := Best(scores); kind < 0 || kind >= api.Kinds {
				t.Errorf("of %d the best one is %d", scores, kind)
			}
			Beaten(scores, now, 0)
			if kind, ok := s.Ask(scores, now, false, false); kind < 0 || kind >= api.Kinds || !ok && kind != 0 {
				t.Errorf("of %d, now %d: told %d, %v", scores, now, kind, ok)
			}
		}
	}
}
