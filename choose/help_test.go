package choose

import (
	"math"
	"strconv"
	"testing"

	"cachewise/api"
)

// What may be, and what may not.
var (
	margins   = []int{0, 1, 2, 1000, 1<<30 - 1, 1 << 30}
	noMargins = []int{-1, -2, math.MinInt32, math.MinInt, 1<<30 + 1, 1<<30 + 2, 1 << 31, 1 << 32, math.MaxInt}
	holds     = []int{1, 2, 3, 32, 63, 64}
	noHolds   = []int{0, -1, -2, -64, math.MinInt, 65, 66, 128, 1 << 32, math.MaxInt}
	noKinds   = []int{-1, -2, -7, math.MinInt32, math.MinInt, 7, 8, 14, 64, 1 << 32, math.MaxInt}
)

// numbers are one of each kind.
type numbers = [api.Kinds]int

// all are the same number of each kind.
func all(n int) numbers { return numbers{n, n, n, n, n, n, n} }

// next tells the next one of a row of numbers that looks like chance.
func next(x uint64) uint64 { return x*6364136223846793005 + 1442695040888963407 }

// below is a number from 0 to below n, told by one that looks like chance.
func below(x uint64, n int) int { return int(x >> 33 % uint64(n)) }

// asking is all that a selector is asked of.
type asking struct {
	scores         numbers
	now            int
	pinned, moving bool
}

// With margins of 0 to 5, by the scores: kind 0 is beaten, and 3 is the best one; kind 3 isn't beaten; 0 is beaten, but there is a pin, or a move goes on, or both.
var (
	left   = numbers{9, 4, 5, 3, 4, 6, 7}
	beaten = asking{scores: left}
	best   = asking{scores: left, now: 3}
	pin    = asking{scores: left, pinned: true}
	move   = asking{scores: left, moving: true}
	both   = asking{scores: left, pinned: true, moving: true}
)

// made is a new selector.
func made(t *testing.T, margin, hold int) *Selector {
	t.Helper()
	s, err := New(margin, hold)
	if err != nil || s == nil {
		t.Fatalf("New of margin %d, hold %d: %v, %v", margin, hold, s, err)
	}
	return s
}

// none asks a selector, who should tell none, and holds what was counted behind against what it should be.
func none(t *testing.T, name string, s *Selector, x asking, counted int) {
	t.Helper()
	check(t, name, s, x, 0, false, counted)
}

// told asks a selector, who should tell a kind, behind which nothing is counted.
func told(t *testing.T, name string, s *Selector, x asking, kind int) {
	t.Helper()
	check(t, name, s, x, kind, true, 0)
}

func check(t *testing.T, name string, s *Selector, x asking, kind int, ok bool, counted int) {
	t.Helper()
	gotKind, gotOK := s.Ask(x.scores, x.now, x.pinned, x.moving)
	if gotKind != kind || gotOK != ok {
		t.Errorf("%s: told %d, %v; want %d, %v", name, gotKind, gotOK, kind, ok)
	}
	// Twice, as what is told of it changes nothing.
	for range 2 {
		if got := s.Counted(); got != counted {
			t.Errorf("%s: counted %d; want %d", name, got, counted)
		}
	}
}

// count lets a selector, who tells none, count up to a number of windows.
func count(t *testing.T, name string, s *Selector, x asking, most int) {
	t.Helper()
	for i := s.Counted(); i < most; i++ {
		none(t, name+", window "+strconv.Itoa(i), s, x, i+1)
	}
}

// checkFault asks for the whole form of a fault: its Op, no Key, and the number that it wraps.
func checkFault(t *testing.T, name string, err error) {
	t.Helper()
	f, ok := err.(*api.Fault)
	if !ok {
		t.Errorf("%s: error %v is no *api.Fault", name, err)
		return
	}
	if f.Op != "choose" || f.Key != "" || f.Err != error(api.ErrRange) {
		t.Errorf("%s: fault %q %q %v", name, f.Op, f.Key, f.Err)
	}
}
