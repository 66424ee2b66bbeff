package learn

import (
	"slices"
	"strconv"
	"testing"

	"cachewise/api"
)

// haunted is a learner of 3 that has a ghost in HA, and one in HB: of kind 5 a and b, of kind 6 b and d.
func haunted(t *testing.T, kind int, removed string) *Learner {
	t.Helper()
	l := filled(t, kind, 3, "aabcde", low, high)
	for _, key := range letters(removed) {
		remove(t, l, key, true)
	}
	return l
}

// P10.2: Remove of residents, of ghosts, and of neither; Adopt of them with room left and with none. None of it is a regret.
func TestRemoveAndAdopt(t *testing.T) {
	removes := func(l *Learner, key string) bool { return l.Remove(key) }
	adopts := func(l *Learner, key string) bool { return l.Adopt(key) }
	for i, x := range []struct {
		kind    int
		removed string
		call    func(l *Learner, key string) bool
		key     string
		want    bool
		after   state
	}{
		{5, "", removes, "c", true, state{"de", "de", "a", "b"}},
		{5, "", removes, "d", true, state{"ce", "ce", "a", "b"}},
		{5, "", removes, "a", false, state{"cde", "cde", "", "b"}},
		{5, "", removes, "b", false, state{"cde", "cde", "a", ""}},
		{5, "", removes, "x", false, state{"cde", "cde", "a", "b"}},
		{5, "c", removes, "c", false, state{"de", "de", "a", "b"}},
		{5, "", adopts, "x", false, state{"cde", "cde", "a", "b"}},
		{5, "", adopts, "a", false, state{"cde", "cde", "a", "b"}},
		{5, "", adopts, "b", false, state{"cde", "cde", "a", "b"}},
		{5, "", adopts, "c", false, state{"cde", "cde", "a", "b"}},
		{5, "c", adopts, "d", false, state{"de", "de", "a", "b"}},
		{5, "c", adopts, "c", true, state{"dec", "dec", "a", "b"}},
		{5, "c", adopts, "x", true, state{"dex", "dex", "a", "b"}},
		{5, "c", adopts, "a", true, state{"dea", "dea", "", "b"}},
		{5, "c", adopts, "b", true, state{"deb", "deb", "a", ""}},
		{6, "", removes, "c", true, state{"ea", "ea", "b", "d"}},
		{6, "", removes, "a", true, state{"ce", "ec", "b", "d"}},
		{6, "", removes, "b", false, state{"cea", "eca", "", "d"}},
		{6, "", removes, "d", false, state{"cea", "eca", "b", ""}},
		{6, "", removes, "x", false, state{"cea", "eca", "b", "d"}},
		{6, "c", removes, "c", false, state{"ea", "ea", "b", "d"}},
		{6, "", adopts, "x", false, state{"cea", "eca", "b", "d"}},
		{6, "", adopts, "b", false, state{"cea", "eca", "b", "d"}},
		{6, "", adopts, "d", false, state{"cea", "eca", "b", "d"}},
		{6, "", adopts, "a", false, state{"cea", "eca", "b", "d"}},
		{6, "c", adopts, "e", false, state{"ea", "ea", "b", "d"}},
		{6, "c", adopts, "c", true, state{"eca", "cea", "b", "d"}},
		{6, "c", adopts, "x", true, state{"exa", "xea", "b", "d"}},
		{6, "c", adopts, "b", true, state{"eba", "bea", "", "d"}},
		{6, "a", adopts, "d", true, state{"ced", "dec", "b", ""}},
	} {
		l := haunted(t, x.kind, x.removed)
		rate, name := l.Rate(), "change "+strconv.Itoa(i)
		if got := x.call(l, x.key); got != x.want {
			t.Errorf("%s: of %q: %v", name, x.key, got)
		}
		check(t, name, l, x.after)
		checkWeight(t, name, l, half)
		checkRate(t, name, l, rate)
	}
}

// P10.2, P10.3: a ghost that was removed, or adopted and removed, isn't regretted; one that couldn't be adopted is.
func TestGhostsNoMore(t *testing.T) {
	inBothKinds(t, func(t *testing.T, kind int) {
		for i, ghost := range haunted(t, kind, "").Ghosts() {
			l := haunted(t, kind, "")
			remove(t, l, ghost, false)
			l.Request(ghost)
			checkWeight(t, "removed", l, half)
			l = haunted(t, kind, "c")
			adopt(t, l, ghost, true)
			ask(t, l, ghost, hit)
			checkWeight(t, "adopted", l, half)
			remove(t, l, ghost, true)
			ask(t, l, ghost, miss)
			checkWeight(t, "adopted and removed", l, half)
			l = haunted(t, kind, "")
			adopt(t, l, ghost, false)
			l.Request(ghost)
			if (l.Weight() < half) != (i == 0) || (l.Weight() > half) != (i == 1) {
				t.Errorf("%q, that couldn't be adopted: the weight is %d", ghost, l.Weight())
			}
		}
	})
}

// P10.2: who would go is A's victim, if A's weight is half of One or more, and else B's.
func TestVictimByWeight(t *testing.T) {
	for kind, x := range map[int]struct{ byA, byB string }{api.LeCaR: {"abc", "bca"}, api.Cacheus: {"bca", "cba"}} {
		for weight, order := range map[api.Fix]string{half: x.byA, half + 1: x.byA, heaviest: x.byA, half - 1: x.byB, lightest: x.byB} {
			l := filled(t, kind, 4, "aabc")
			check(t, "filled", l, state{x.byA, x.byB, "", ""})
			l.weight = weight
			for _, key := range letters(order) {
				drop(t, l, key)
				checkBounds(t, "dropped", l)
			}
			dropNone(t, l)
			check(t, "all dropped", l, state{})
			checkWeight(t, "all dropped", l, weight)
		}
	}
}

// P10.2: so it is where regrets have moved the weight.
func TestVictimBehindRegret(t *testing.T) {
	l := filled(t, api.Cacheus, 3, "aabcdb", low, low)
	check(t, "A was regretted", l, state{"dba", "bda", "c", ""})
	drop(t, l, "b")
	check(t, "B's went", l, state{"da", "da", "c", ""})
	l = filled(t, api.Cacheus, 3, "aabcdc", high, low)
	check(t, "B was regretted", l, state{"dca", "cda", "b", ""})
	drop(t, l, "d")
	check(t, "A's went", l, state{"ca", "ca", "b", ""})
}

// P10.2: the ghosts stay where others drop.
func TestDropLeavesGhosts(t *testing.T) {
	l := haunted(t, api.LeCaR, "")
	for _, key := range letters("cde") {
		drop(t, l, key)
		checkLeft(t, "dropped", l, 0)
	}
	dropNone(t, l)
	check(t, "dropped", l, state{"", "", "a", "b"})
	ask(t, l, "c", miss)
	checkWeight(t, "who was dropped isn't regretted", l, half)
	ask(t, l, "a", miss)
	if l.Weight() >= half {
		t.Errorf("the ghost isn't regretted: %d", l.Weight())
	}
}

// crowded is a learner of 4 with ghosts in both rows, whose experts let their residents go in other orders.
func crowded(t *testing.T, kind int, weight api.Fix) *Learner {
	t.Helper()
	l := filled(t, api.LeCaR, 4, "aaabbcdefgdddeef", low, high, low, 5)
	want := state{"gdef", "gfed", "ba", "c"}
	if kind == api.Cacheus {
		l = filled(t, kind, 4, "aabbcdefg", high, high, low, 5)
		want = state{"fgab", "gfba", "c", "ed"}
	}
	check(t, "crowded", l, want)
	l.weight = weight
	return l
}

// P10.2: Resize drops whoever doesn't fit, by the weight, and tells all of them, in order; then the last ghosts go; to as many or more nobody goes.
func TestResize(t *testing.T) {
	for kind, all := range map[int]state{api.LeCaR: {"gdef", "gfed", "ba", "c"}, api.Cacheus: {"fgab", "gfba", "c", "ed"}} {
		for _, most := range []int{4, 5, 8, 1000, api.MaxCap - 1, api.MaxCap} {
			for _, weight := range []api.Fix{half, half - 1} {
				checkResize(t, crowded(t, kind, weight), most, "", all)
			}
		}
	}
	for _, x := range []struct {
		kind   int
		weight api.Fix
		most   int
		gone   string
		after  state
	}{
		{5, half, 3, "g", state{"def", "fed", "ba", "c"}},
		{5, half, 2, "gd", state{"ef", "fe", "ba", "c"}},
		{5, half, 1, "gde", state{"f", "f", "b", "c"}},
		{5, half, 0, "gdef", state{}},
		{5, half - 1, 3, "g", state{"def", "fed", "ba", "c"}},
		{5, half - 1, 2, "gf", state{"de", "ed", "ba", "c"}},
		{5, half - 1, 1, "gfe", state{"d", "d", "b", "c"}},
		{5, half - 1, 0, "gfed", state{}},
		{6, half, 3, "f", state{"gab", "gba", "c", "ed"}},
		{6, half, 2, "fg", state{"ab", "ba", "c", "ed"}},
		{6, half, 1, "fga", state{"b", "b", "c", "e"}},
		{6, half, 0, "fgab", state{}},
		{6, half - 1, 3, "g", state{"fab", "fba", "c", "ed"}},
		{6, half - 1, 2, "gf", state{"ab", "ba", "c", "ed"}},
		{6, half - 1, 1, "gfb", state{"a", "a", "c", "e"}},
		{6, half - 1, 0, "gfba", state{}},
	} {
		checkResize(t, crowded(t, x.kind, x.weight), x.most, x.gone, x.after)
	}
}

// checkResize holds a Resize, to so many and back to 4: weight, rate and draws stay.
func checkResize(t *testing.T, l *Learner, most int, gone string, after state) {
	t.Helper()
	weight, rate, name := l.Weight(), l.Rate(), "kind "+strconv.Itoa(l.Kind())+" resized to "+strconv.Itoa(most)
	for _, went := range []string{gone, "", ""} {
		resize(t, l, most, went)
		check(t, name, l, after)
		checkSize(t, name, l, l.Kind(), most)
	}
	resize(t, l, 4, "")
	check(t, name+", and back", l, after)
	checkSize(t, name+", and back", l, l.Kind(), 4)
	checkWeight(t, name, l, weight)
	checkRate(t, name, l, rate)
	checkLeft(t, name, l, 1)
}

// P10.2: behind a Resize there is room for so many: to the last one nobody goes, and for one more one does.
func TestRoomBehindResize(t *testing.T) {
	inBothKinds(t, func(t *testing.T, kind int) {
		for _, from := range []int{0, 1, 2, 3} {
			for _, most := range []int{1, 2, 3, 4, 7, 1000} {
				l := crowded(t, kind, half)
				l.Resize(from)
				if _, err := l.Resize(most); err != nil {
					t.Error(err)
				}
				for i := l.Len(); i < most; i++ {
					ask(t, l, "new "+strconv.Itoa(i), miss)
				}
				if s := l.Request("x"); s.Hit || !s.Out || l.Has(s.Victim) || !l.Has("x") || l.Len() != most {
					t.Errorf("of %d: one more: %+v, %d residents", most, s, l.Len())
				}
				checkBounds(t, "one more", l)
			}
		}
	})
}

// P10.2: both experts are of the new size: of SR-LRU it tells by whom it demotes.
func TestExpertsAreResized(t *testing.T) {
	l := made(t, api.Cacheus, 4)
	request(l, "aabbc")
	check(t, "the target is 2", l, state{"cab", "cba", "", ""})
	l = made(t, api.Cacheus, 4)
	resize(t, l, 1, "")
	resize(t, l, 4, "")
	request(l, "aabbc")
	check(t, "the target is 1", l, state{"acb", "cba", "", ""})
	for i := range 2 {
		if l.experts[i].Most() != 4 {
			t.Errorf("expert %d is of %d", i, l.experts[i].Most())
		}
	}
}

// P10.1, P10.2: behind a Resize the discount is another one.
func TestDiscountBehindResize(t *testing.T) {
	for _, x := range []struct {
		most int
		want api.Fix
	}{{1, 2047524533351348108}, {2, 1962537495256820431}, {3, lighter}, {100, 1800497263105140197}, {api.MaxCap, 1795609630330156817}} {
		l := filled(t, api.LeCaR, 3, "aabcd", low, low)
		if _, err := l.Resize(x.most); err != nil {
			t.Error(err)
		}
		l.Request("a")
		checkWeight(t, "of "+strconv.Itoa(x.most), l, x.want)
	}
}

// P10.2: ghosts that went in a Resize aren't regretted, and those that are left are; from then on the rows have as many as fit.
func TestGhostsBehindResize(t *testing.T) {
	l := crowded(t, api.LeCaR, half)
	resize(t, l, 1, "gde")
	resize(t, l, 4, "")
	ask(t, l, "a", miss)
	checkWeight(t, "a went for good", l, half)
	ask(t, l, "b", miss)
	if l.Weight() >= half {
		t.Errorf("b wasn't regretted: %d", l.Weight())
	}
	resize(t, l, 2, "a")
	check(t, "two are left", l, state{"fb", "bf", "", "c"})
	l = crowded(t, api.LeCaR, half)
	resize(t, l, 2, "gd")
	request(l, "xyz")
	check(t, "room for two ghosts", l, state{"yz", "yz", "xf", "c"})
}

// P10.2: a Resize to what is no size is a fault, beside which nobody goes, and all is as it was.
func TestResizeToNoSize(t *testing.T) {
	inBothKinds(t, func(t *testing.T, kind int) {
		for _, most := range none {
			l, other := crowded(t, kind, half), crowded(t, kind, half)
			gone, err := l.Resize(most)
			if len(gone) != 0 {
				t.Errorf("Resize to %d: %q went", most, gone)
			}
			name := "Resize to " + strconv.Itoa(most)
			checkFault(t, name, err, "resize", api.ErrRange)
			for _, key := range letters("xaygbz") {
				checkSize(t, name, l, kind, 4)
				checkKeys(t, name, l, other.Keys(), other.rows[expertA].Keys(), other.rows[expertB].Keys())
				checkWeight(t, name, l, other.Weight())
				checkRate(t, name, l, other.Rate())
				ask(t, l, key, other.Request(key))
			}
		}
	})
}

// P10.2: Keys go in A's order, Ghosts from HA's front on, then from HB's.
func TestOrders(t *testing.T) {
	l := filled(t, api.LeCaR, 2, "abcdef", high, low, high, low)
	if got := l.Ghosts(); !slices.Equal(got, letters("dbca")) {
		t.Errorf("the ghosts are %q", got)
	}
	if got := l.Keys(); !slices.Equal(got, letters("ef")) {
		t.Errorf("the residents are %q", got)
	}
	ask(t, l, "e", hit)
	if got := l.Keys(); !slices.Equal(got, letters("fe")) {
		t.Errorf("the residents are %q", got)
	}
	ask(t, l, "b", wentFor("f"))
	if got := l.Ghosts(); !slices.Equal(got, letters("fdca")) {
		t.Errorf("the ghosts are %q", got)
	}
}
