package draw

import (
	"math"
	"slices"
	"testing"

	"cachewise/api"
)

const most = math.MaxUint64

// absent are lanes that a tape of 3 lanes or fewer doesn't have.
var absent = []int{3, 4, 1 << 20, math.MaxInt, -1, -2, math.MinInt}

// checkLane reads a lane to its end, and a few times behind it.
func checkLane(t *testing.T, name string, x *Tape, lane int, want ...uint64) {
	t.Helper()
	for i, w := range want {
		if left := x.Left(lane); left != len(want)-i {
			t.Errorf("%s: lane %d has %d left ahead of number %d; want %d", name, lane, left, i, len(want)-i)
		}
		if got := x.Next(lane); got != w {
			t.Errorf("%s: number %d of lane %d is %d; want %d", name, i, lane, got, w)
		}
	}
	for range 3 {
		if got, left := x.Next(lane), x.Left(lane); got != 0 || left != 0 {
			t.Errorf("%s: lane %d behind its last: %d, %d left; want 0, 0", name, lane, got, left)
		}
	}
}

// P2.1
func TestNext(t *testing.T) {
	checkLane(t, "the chapter's", New([]uint64{5}), 0, 5)
	checkLane(t, "one of many", New([]uint64{1, 2, 3}), 0, 1, 2, 3)
	checkLane(t, "the greatest and the least", New([]uint64{most, 0, 1 << 63, 1}), 0, most, 0, 1<<63, 1)
	checkLane(t, "zeros count", New([]uint64{0, 0, 7, 0}), 0, 0, 0, 7, 0)
	checkLane(t, "a nil lane", New(nil), 0)
	checkLane(t, "an empty lane", New([]uint64{}), 0)
	checkLane(t, "behind a nil lane", New(nil, []uint64{}, []uint64{4, 4}), 2, 4, 4)
}

// P2.1: each lane is read from its own front, whatever was read of the others.
func TestLanesApart(t *testing.T) {
	x := New([]uint64{1, 2}, []uint64{10}, []uint64{20, 21, 22})
	for i, step := range []struct {
		lane int
		want uint64
	}{{2, 20}, {0, 1}, {2, 21}, {1, 10}, {1, 0}, {0, 2}, {0, 0}, {1, 0}, {2, 22}, {2, 0}} {
		if got := x.Next(step.lane); got != step.want {
			t.Errorf("step %d: lane %d gives %d; want %d", i, step.lane, got, step.want)
		}
	}
}

// P2.1: Left takes nothing.
func TestLeft(t *testing.T) {
	x := New([]uint64{1, 2, 3}, nil, []uint64{9})
	for range 2 {
		if a, b, c := x.Left(0), x.Left(1), x.Left(2); a != 3 || b != 0 || c != 1 {
			t.Errorf("left: %d, %d, %d; want 3, 0, 1", a, b, c)
		}
	}
	checkLane(t, "after Left", x, 0, 1, 2, 3)
}

// P2.1
func TestAbsentLanes(t *testing.T) {
	x := New([]uint64{1}, []uint64{2}, []uint64{3})
	for _, lane := range absent {
		checkLane(t, "absent", x, lane)
		if x.Pick(lane, 0) || !x.Pick(lane, 1) {
			t.Errorf("lane %d isn't read as 0 by Pick", lane)
		}
	}
	for lane, want := range []uint64{1, 2, 3} {
		checkLane(t, "beside absent ones", x, lane, want)
	}
}

// P2.1
func TestNoLanes(t *testing.T) {
	for name, x := range map[string]*Tape{"New()": New(), "a copy of it": New().Copy(), "no list": New([][]uint64(nil)...)} {
		for _, lane := range append([]int{0, 1}, absent...) {
			checkLane(t, name, x, lane)
			if x.Pick(lane, 0) || !x.Pick(lane, 1) || !x.Pick(lane, api.Most) {
				t.Errorf("%s: lane %d isn't read as 0 by Pick", name, lane)
			}
		}
	}
}

// P2.1: a number counts as a part of One: its two lowest bits play no part.
func TestPick(t *testing.T) {
	for _, c := range []struct {
		number uint64
		w      api.Fix
		want   bool
	}{
		{0, 0, false}, {0, 1, true}, {3, 1, true}, {4, 1, false}, {4, 2, true}, {7, 2, true}, {8, 2, false},
		{most, 0, false}, {1 << 63, 0, false}, {5, 0, false},
		{0, api.One, true}, {1 << 63, api.One, true}, {most, api.One, true},
		{most, api.One - 1, false}, {most - 3, api.One - 1, false}, {most - 4, api.One - 1, true},
		{1 << 63, api.One / 2, false}, {1<<63 - 1, api.One / 2, true}, {1<<63 + 3, api.One/2 + 1, true}, {1<<63 + 4, api.One/2 + 1, false},
		{1 << 62, api.One / 4, false}, {1<<62 - 1, api.One / 4, true},
		{most, api.One + 1, true}, {most, api.Most, true}, {0, api.Most, true},
	} {
		x := New([]uint64{77}, []uint64{c.number, 6})
		if got := x.Pick(1, c.w); got != c.want {
			t.Errorf("Pick of %d below %d: %v", c.number, c.w, got)
		}
		checkLane(t, "behind Pick", x, 1, 6)
		checkLane(t, "beside Pick", x, 0, 77)
	}
}

// P2.1: behind its last number a lane reads 0, so only a w of 0 isn't above it.
func TestPickBehindTheLast(t *testing.T) {
	x := New([]uint64{most})
	if x.Pick(0, api.One-1) {
		t.Error("the greatest number is below One - 1")
	}
	if x.Pick(0, 0) || !x.Pick(0, 1) || !x.Pick(0, api.One) || x.Left(0) != 0 {
		t.Error("behind the last number 0 isn't read")
	}
}

// P2.1: a copy begins with what is left.
func TestCopy(t *testing.T) {
	x := New([]uint64{1, 2, 3}, []uint64{4}, nil, []uint64{5, 6})
	x.Next(0)
	x.Next(1)
	x.Pick(3, api.One)
	c := x.Copy()
	checkLane(t, "copy", c, 0, 2, 3)
	checkLane(t, "copy", c, 1)
	checkLane(t, "copy", c, 2)
	checkLane(t, "copy", c, 3, 6)
	checkLane(t, "the first, its copy read", x, 0, 2, 3)
	checkLane(t, "the first, its copy read", x, 3, 6)
	checkLane(t, "a copy of what is spent", x.Copy(), 0)
}

// P2.1: neither tape is moved by the other.
func TestCopiesApart(t *testing.T) {
	x := New([]uint64{1, 2, 3, 4})
	x.Next(0)
	c := x.Copy()
	d := c.Copy()
	if got := []uint64{x.Next(0), c.Next(0), x.Next(0), c.Next(0), d.Next(0)}; !slices.Equal(got, []uint64{2, 2, 3, 3, 2}) {
		t.Errorf("read in turns: %d", got)
	}
	checkLane(t, "first", x, 0, 4)
	checkLane(t, "copy", c, 0, 4)
	checkLane(t, "copy of the copy", d, 0, 3, 4)
}

// A copy's memory is its own: the package alone could see that it isn't.
func TestCopySharesNothing(t *testing.T) {
	x := New([]uint64{1, 2}, []uint64{3})
	c := x.Copy()
	for _, lane := range c.lanes {
		for i := range lane {
			lane[i] = 99
		}
	}
	c.lanes[1] = nil
	checkLane(t, "the first", x, 0, 1, 2)
	checkLane(t, "the first", x, 1, 3)
}

// P2.1: what the caller does with lanes behind New moves no tape.
func TestLanesChangedBehindNew(t *testing.T) {
	lanes := [][]uint64{{1, 2, 3}, {4, 5}, nil}
	x := New(lanes...)
	lanes[0][0], lanes[0][2] = 70, 71
	lanes[1] = []uint64{80, 81, 82}
	lanes[2] = []uint64{90}
	checkLane(t, "changed", x, 0, 1, 2, 3)
	checkLane(t, "replaced", x, 1, 4, 5)
	checkLane(t, "laid later", x, 2)
}

// Lanes that share memory are read apart all the same.
func TestLanesThatShare(t *testing.T) {
	row := []uint64{1, 2, 3}
	x := New(row, row, row[1:], row[:1])
	checkLane(t, "the row", x, 0, 1, 2, 3)
	checkLane(t, "the row again", x, 1, 1, 2, 3)
	checkLane(t, "its end", x, 2, 2, 3)
	checkLane(t, "its beginning", x, 3, 1)
}

// What is handed in isn't changed, its spare room neither.
func TestLanesUnchanged(t *testing.T) {
	row := []uint64{1, 2, 3, 4, 5}
	lanes := make([][]uint64, 1, 4)
	lanes[0] = row[1:3]
	x := New(lanes...)
	x.Next(0)
	x.Pick(0, api.One)
	x.Copy().Next(0)
	x.Next(0)
	if !slices.Equal(row, []uint64{1, 2, 3, 4, 5}) || len(lanes[0]) != 2 || &lanes[0][0] != &row[1] {
		t.Errorf("the caller's lanes are %d now, of %d", lanes, row)
	}
	if spare := lanes[:4]; spare[1] != nil || spare[2] != nil || spare[3] != nil {
		t.Error("the lanes' spare room was written to")
	}
}
