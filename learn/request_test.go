package learn

import (
	"strconv"
	"testing"

	"cachewise/api"
	"cachewise/draw"
)

// The weights behind a regret with an age of 1 in a learner of 3.
const (
	lighter = api.Fix(1920383924006074311)
	heavier = api.Fix(2691302094421313592)
)

// turn is a learner's kind, its draws, what it was asked for, who was removed then, and what a request does.
type turn struct {
	kind    int
	draws   []uint64
	keys    string
	removed string
	key     string
	want    api.Step
	after   state
	weight  api.Fix
	left    int
}

// turns are requests in learners of 3.
var turns = []turn{
	{5, []uint64{low}, "", "", "a", miss, state{"a", "a", "", ""}, half, 1},
	{5, []uint64{low}, "aab", "", "a", hit, state{"ba", "ba", "", ""}, half, 1},
	{5, []uint64{low}, "aab", "", "b", hit, state{"ab", "ab", "", ""}, half, 1},
	{5, []uint64{low}, "aabc", "", "b", hit, state{"acb", "cab", "", ""}, half, 1},
	{5, []uint64{low}, "aab", "", "c", miss, state{"abc", "bca", "", ""}, half, 1},
	{5, []uint64{low, high}, "aabc", "", "d", wentFor("a"), state{"bcd", "bcd", "a", ""}, half, 1},
	{5, []uint64{high, low}, "aabc", "", "d", wentFor("b"), state{"acd", "cda", "", "b"}, half, 1},
	{5, []uint64{low, low}, "aabcd", "", "a", wentFor("b"), state{"cda", "cda", "b", ""}, lighter, 0},
	{5, []uint64{low, high}, "aabcd", "", "a", wentFor("b"), state{"cda", "cda", "", "b"}, lighter, 0},
	{5, []uint64{high, low}, "aabcd", "", "b", wentFor("a"), state{"cdb", "cdb", "a", ""}, heavier, 0},
	{5, []uint64{high, high}, "aabcd", "", "b", wentFor("c"), state{"adb", "dba", "", "c"}, heavier, 0},
	{5, []uint64{low, high}, "aabcd", "b", "a", miss, state{"cda", "cda", "", ""}, lighter, 1},
	{5, []uint64{high, low}, "aabcd", "a", "b", miss, state{"cdb", "cdb", "", ""}, heavier, 1},
	{5, []uint64{low, low}, "aabcd", "", "x", wentFor("b"), state{"cdx", "cdx", "ba", ""}, half, 0},
	{5, []uint64{low, high}, "aabcd", "", "x", wentFor("b"), state{"cdx", "cdx", "a", "b"}, half, 0},
	{5, []uint64{high, high}, "aabcd", "", "x", wentFor("c"), state{"adx", "dxa", "", "cb"}, half, 0},
	{6, []uint64{low}, "", "", "a", miss, state{"a", "a", "", ""}, half, 1},
	{6, []uint64{low}, "aab", "", "a", hit, state{"ba", "ba", "", ""}, half, 1},
	{6, []uint64{low}, "aab", "", "b", hit, state{"ab", "ba", "", ""}, half, 1},
	{6, []uint64{low}, "aabc", "", "b", hit, state{"cab", "cba", "", ""}, half, 1},
	{6, []uint64{low}, "aab", "", "c", miss, state{"bca", "cba", "", ""}, half, 1},
	{6, []uint64{low, high}, "aabc", "", "d", wentFor("b"), state{"cda", "dca", "b", ""}, half, 1},
	{6, []uint64{high, low}, "aabc", "", "d", wentFor("c"), state{"bda", "dba", "", "c"}, half, 1},
	{6, []uint64{low, low}, "aabcd", "", "b", wentFor("c"), state{"dba", "bda", "c", ""}, lighter, 0},
	{6, []uint64{low, high}, "aabcd", "", "b", wentFor("d"), state{"cba", "bca", "", "d"}, lighter, 0},
	{6, []uint64{high, low}, "aabcd", "", "c", wentFor("b"), state{"dca", "cda", "b", ""}, heavier, 0},
	{6, []uint64{high, high}, "aabcd", "", "c", wentFor("d"), state{"bca", "cba", "", "d"}, heavier, 0},
	{6, []uint64{low, high}, "aabcd", "c", "b", miss, state{"dba", "bda", "", ""}, lighter, 1},
	{6, []uint64{high, low}, "aabcd", "b", "c", miss, state{"dca", "cda", "", ""}, heavier, 1},
	{6, []uint64{low, low}, "aabcd", "", "x", wentFor("c"), state{"dxa", "xda", "cb", ""}, half, 0},
	{6, []uint64{low, high}, "aabcd", "", "x", wentFor("d"), state{"cxa", "xca", "b", "d"}, half, 0},
	{6, []uint64{high, high}, "aabcd", "", "x", wentFor("d"), state{"bxa", "xba", "", "dc"}, half, 0},
}

// P10.1: a hit, a miss with room left and with none, of a ghost in HA, in HB, and of none: who goes, to which row, the weight, and the draws.
func TestRequest(t *testing.T) {
	for i, x := range turns {
		l := filled(t, x.kind, 3, x.keys, x.draws...)
		for _, key := range letters(x.removed) {
			remove(t, l, key, true)
		}
		name := "turn " + strconv.Itoa(i)
		if got := l.Request(x.key); got != x.want {
			t.Errorf("%s: Request of %q is %+v; want %+v", name, x.key, got, x.want)
		}
		check(t, name, l, x.after)
		checkWeight(t, name, l, x.weight)
		checkLeft(t, name, l, x.left)
	}
}

// ages are the weights behind the first regret, of a ghost in HA, and of one in HB, by the size and the age.
var ages = []struct {
	most, age int
	ha, hb    api.Fix
}{
	{1, 1, 2047524533351348108, 2564161485076039795},
	{1, 2, 2176275963872052839, 2435410054555335064},
	{1, 3, 2241008268775703856, 2370677749651684047},
	{1, 10, 2305336354263768498, 2306349664163619405},
	{1, 40, 2305843009213222092, 2305843009214165811},
	{1, 1000, half, half},
	{2, 1, 1962537495256820431, 2649148523170567472},
	{2, 2, 2076024260565391557, 2535661757861996346},
	{2, 3, 2152347475374149435, 2459338543053238468},
	{2, 10, 2296846014628325082, 2314840003799062821},
	{2, 1000, half, half},
	{3, 1, lighter, heavier},
	{3, 2, 2015558035412935096, 2596127983014452807},
	{3, 40, 2305837791709710868, 2305848226717677035},
	{100, 1, 1800497263105140197, 2811188755322247706},
	{100, 2, 1805341236931169020, 2806344781496218883},
	{100, 3, 1810141822455202088, 2801544195972185815},
	{100, 10, 1842556365525540008, 2769129652901847895},
	{100, 40, 1960008210464118021, 2651677807963269882},
	{100, 1000, 2305818255607870388, 2305867762819517515},
}

// agedTo is a learner in which somebody went by a draw, so many requests ahead of the next one.
func agedTo(t *testing.T, kind, most, age int, draws ...uint64) (*Learner, string) {
	t.Helper()
	l := made(t, kind, most, draws...)
	for i := range most {
		ask(t, l, strconv.Itoa(i), miss)
	}
	step := l.Request("x")
	if !step.Out {
		t.Fatalf("of %d: %+v", most, step)
	}
	for range age - 1 {
		ask(t, l, "x", hit)
	}
	return l, step.Victim
}

// P10.1: the older a ghost is, the less it is regretted: by the row that it stands in, and whoever goes for it.
func TestAges(t *testing.T) {
	inBothKinds(t, func(t *testing.T, kind int) {
		for _, x := range ages {
			if kind == api.Cacheus && x.age+1 > x.most {
				// A window's end would move the rate ahead.
				continue
			}
			for _, second := range []uint64{low, high} {
				for first, want := range map[uint64]api.Fix{low: x.ha, high: x.hb} {
					l, ghost := agedTo(t, kind, x.most, x.age, first, second)
					l.Request(ghost)
					checkWeight(t, "of "+strconv.Itoa(x.most)+", aged "+strconv.Itoa(x.age), l, want)
				}
			}
		}
	})
}

// P10.1: what isn't a request makes no ghost older.
func TestClockCountsRequests(t *testing.T) {
	inBothKinds(t, func(t *testing.T, kind int) {
		for first, want := range map[uint64]api.Fix{low: lighter, high: heavier} {
			l, ghost := agedTo(t, kind, 3, 1, first)
			adopt(t, l, ghost, false)
			remove(t, l, "x", true)
			adopt(t, l, "y", true)
			l.Drop()
			l.Victim()
			resize(t, l, 5, "")
			resize(t, l, 3, "")
			ask(t, l, ghost, miss)
			checkWeight(t, "aged 1", l, want)
		}
	})
}

// P10.1: each regret goes on from the weight that the one ahead left.
func TestRegretsInARow(t *testing.T) {
	l := made(t, api.LeCaR, 1, append(draws(low, 40), draws(high, 60)...)...)
	request(l, "ab")
	for i, want := range map[int]api.Fix{1: 2047524533351348108, 2: 1795609600920550118, 3: 1555882156445449119} {
		x := filled(t, api.LeCaR, 1, "ab")
		alternate(x, i)
		checkWeight(t, strconv.Itoa(i)+" regrets of A", x, want)
	}
	// 39 draws are left by which A goes on to be picked: the last of these ghosts is regretted behind them.
	alternate(l, 39)
	checkWeight(t, "A's least", l, lightest)
	alternate(l, 1)
	checkWeight(t, "A's least, once more", l, lightest)
	for i, want := range []api.Fix{57607833956831130, 71916921157177518, 89710198256107972} {
		alternate(l, 1)
		checkWeight(t, strconv.Itoa(i)+" regrets of B", l, want)
	}
	alternate(l, 37)
	checkWeight(t, "40 regrets of B", l, 4556022491955856891)
	for range 10 {
		alternate(l, 1)
		checkWeight(t, "A's most", l, heaviest)
	}
}

// P10.1, P10.3: the weight is never below 1 / 100, nor above what that leaves of One, and leaves both bounds again.
func TestBounds(t *testing.T) {
	inBothKinds(t, func(t *testing.T, kind int) {
		for pick, bound := range map[uint64]api.Fix{low: lightest, high: heaviest} {
			l := filled(t, kind, 1, "ab", append(draws(pick, 7000), high-pick)...)
			for i := range 6000 {
				weight := l.Weight()
				alternate(l, 1)
				if (l.Weight() < weight) != (pick == low && weight > lightest) || (l.Weight() > weight) != (pick == high && weight < heaviest) {
					t.Fatalf("regret %d: from %d to %d", i, weight, l.Weight())
				}
			}
			checkWeight(t, "regretted often", l, bound)
			for l.tape.Left(0) > 1 {
				l.tape.Next(0)
			}
			alternate(l, 1)
			checkWeight(t, "regretted once more", l, bound)
			// The last draw picked the other one's victim.
			alternate(l, 1)
			if l.Weight() == bound {
				t.Errorf("kind %d: it stays at %d", kind, bound)
			}
		}
	})
}

// alternate asks so often for who isn't resident, in a learner of 1: each time the one that just went.
func alternate(l *Learner, times int) {
	for range times {
		key := "a"
		if l.Has(key) {
			key = "b"
		}
		l.Request(key)
	}
}

// draws are so many of one number.
func draws(x uint64, times int) []uint64 {
	row := make([]uint64, times)
	for i := range row {
		row[i] = x
	}
	return row
}

// P10.1, P10.3: a draw, less its last 2 bits, picks A where it is below the weight, and B where it is as much, or more.
func TestPickByWeight(t *testing.T) {
	for _, last := range []uint64{0, 1, 2, 3} {
		at := uint64(half) << 2
		for x, want := range map[uint64]state{
			at - 4 + last: {"bcd", "bcd", "a", ""}, at + last: {"acd", "cda", "", "b"}, at + 4 + last: {"acd", "cda", "", "b"},
			last: {"bcd", "bcd", "a", ""}, high - last: {"acd", "cda", "", "b"},
		} {
			l := filled(t, api.LeCaR, 3, "aabcd", x)
			check(t, "drawn "+strconv.FormatUint(x, 10), l, want)
		}
	}
}

// P10.1: a ghost is regretted first: the draw is held against the weight that this leaves.
func TestRegretIsAheadOfPick(t *testing.T) {
	for _, last := range []uint64{0, 3} {
		for _, x := range []struct {
			kind  int
			first uint64
			key   string
			at    api.Fix
			want  state
		}{
			{5, low, "a", lighter - 1, state{"cda", "cda", "b", ""}},
			{5, low, "a", lighter, state{"cda", "cda", "", "b"}},
			{5, low, "a", half - 1, state{"cda", "cda", "", "b"}},
			{5, high, "b", half, state{"cdb", "cdb", "a", ""}},
			{5, high, "b", heavier - 1, state{"cdb", "cdb", "a", ""}},
			{5, high, "b", heavier, state{"adb", "dba", "", "c"}},
			{6, low, "b", lighter - 1, state{"dba", "bda", "c", ""}},
			{6, low, "b", lighter, state{"cba", "bca", "", "d"}},
			{6, low, "b", half - 1, state{"cba", "bca", "", "d"}},
			{6, high, "c", half, state{"dca", "cda", "b", ""}},
			{6, high, "c", heavier - 1, state{"dca", "cda", "b", ""}},
			{6, high, "c", heavier, state{"bca", "cba", "", "d"}},
		} {
			l := filled(t, x.kind, 3, "aabcd", x.first, uint64(x.at)<<2+last)
			l.Request(x.key)
			check(t, "drawn "+strconv.FormatUint(uint64(x.at), 10), l, x.want)
		}
	}
}

// P10.1: each row has at most as many as most, and its last one goes: it isn't regretted any more.
func TestRowsAreCut(t *testing.T) {
	for kind, x := range map[int]struct{ a, b, both state }{
		api.LeCaR:   {state{"gh", "gh", "fe", ""}, state{"gh", "gh", "", "fe"}, state{"gh", "gh", "dc", "fe"}},
		api.Cacheus: {state{"gh", "hg", "fe", ""}, state{"ah", "ha", "", "gf"}, state{"dh", "hd", "cb", "gf"}},
	} {
		l := filled(t, kind, 2, "abcdefgh", draws(low, 6)...)
		check(t, "by A's choice", l, x.a)
		checkForgotten(t, l, "b")
		l = filled(t, kind, 2, "abcdefgh", draws(high, 6)...)
		check(t, "by B's choice", l, x.b)
		checkForgotten(t, l, map[int]string{api.LeCaR: "b", api.Cacheus: "c"}[kind])
		l = filled(t, kind, 2, "abcdefgh", low, low, low, low, high, high)
		if kind == api.Cacheus {
			l = filled(t, kind, 2, "abcdefgh", low, low, low, high, high, high)
		}
		if n := len(l.Ghosts()); n != 4 {
			t.Errorf("kind %d: the ghosts are %q", kind, l.Ghosts())
		}
		check(t, "by both choices", l, x.both)
	}
}

// checkForgotten holds that who went is no ghost any more: it isn't regretted.
func checkForgotten(t *testing.T, l *Learner, key string) {
	t.Helper()
	weight := l.Weight()
	if step := l.Request(key); step.Hit || !step.Out {
		t.Errorf("Request of %q is %+v", key, step)
	}
	checkWeight(t, key+" came back", l, weight)
}

// P10.1: who is regretted leaves its row ahead of who comes there, so nobody else has to.
func TestGhostLeavesAheadOfVictim(t *testing.T) {
	l := filled(t, api.LeCaR, 2, "abcde", draws(low, 9)...)
	check(t, "full", l, state{"de", "de", "cb", ""})
	ask(t, l, "b", wentFor("d"))
	check(t, "the last one came back", l, state{"eb", "eb", "dc", ""})
	ask(t, l, "d", wentFor("e"))
	check(t, "the first one came back", l, state{"bd", "bd", "ec", ""})
	l = filled(t, api.Cacheus, 2, "abcde", draws(high, 9)...)
	check(t, "full", l, state{"ae", "ea", "", "dc"})
	ask(t, l, "c", wentFor("e"))
	check(t, "the last one came back", l, state{"ac", "ca", "", "ed"})
}

// P10.1: who went by one's choice, came back, and went by the other's, is a ghost of the other's.
func TestGhostsChangeRows(t *testing.T) {
	l := filled(t, api.LeCaR, 1, "ab", low, high, high, low)
	check(t, "a went by A's choice", l, state{"b", "b", "a", ""})
	ask(t, l, "a", wentFor("b"))
	check(t, "b went by B's", l, state{"a", "a", "", "b"})
	ask(t, l, "c", wentFor("a"))
	check(t, "a went by B's", l, state{"c", "c", "", "a"})
	ask(t, l, "b", wentFor("c"))
	check(t, "c went by A's", l, state{"b", "b", "c", "a"})
	weight := l.Weight()
	ask(t, l, "a", wentFor("b"))
	if l.Weight() <= weight {
		t.Errorf("from %d to %d: A was regretted", weight, l.Weight())
	}
}

// P10.1: draws are taken from the learner's own lane, and only where there is no room left.
func TestLane(t *testing.T) {
	for lane := range 3 {
		tape := draw.New(draws(low, 9), draws(low, 9), draws(low, 9))
		l := madeOf(t, api.LeCaR, 3, tape, lane)
		taken := 0
		for i, key := range letters("aabcabcdeedadfff") {
			if step := l.Request(key); step.Out {
				taken++
			}
			for other := range 3 {
				want := 9
				if other == lane {
					want -= taken
				}
				if tape.Left(other) != want {
					t.Errorf("request %d: lane %d has %d left; want %d", i, other, tape.Left(other), want)
				}
			}
		}
		if taken != 4 {
			t.Errorf("%d draws were taken", taken)
		}
	}
}

// P10.1, P10.2: nothing but a request takes a draw.
func TestOthersTakeNoDraws(t *testing.T) {
	inBothKinds(t, func(t *testing.T, kind int) {
		l := filled(t, kind, 3, "abcde", low, low, 5, 5, 5)
		adopt(t, l, "a", false)
		l.Victim()
		l.Drop()
		l.Drop()
		adopt(t, l, "a", true)
		remove(t, l, "a", true)
		remove(t, l, "b", false)
		l.Resize(7)
		l.Resize(0)
		l.Has("a")
		checkLeft(t, "changed", l, 3)
	})
}

// P10.1: with no room at all nothing happens but that the clock goes on.
func TestNoRoom(t *testing.T) {
	inBothKinds(t, func(t *testing.T, kind int) {
		l := made(t, kind, 0, high, low)
		for i, key := range letters("aabcaabbccddaabbccdd") {
			ask(t, l, key, miss)
			adopt(t, l, key, false)
			remove(t, l, key, false)
			dropNone(t, l)
			resize(t, l, 0, "")
			check(t, "behind "+key, l, state{})
			checkLeft(t, "behind "+key, l, 2)
			checkWeight(t, "behind "+key, l, half)
			checkRate(t, "behind "+key, l, startRate)
			if l.clock != i+1 {
				t.Errorf("the clock is at %d; want %d", l.clock, i+1)
			}
		}
		resize(t, l, 1, "")
		ask(t, l, "a", miss)
		ask(t, l, "a", hit)
		check(t, "room for one", l, state{"a", "a", "", ""})
	})
}
