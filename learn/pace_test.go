package learn

import (
	"strconv"
	"testing"

	"cachewise/api"
	"cachewise/draw"
)

// The rates that come up, and down, from the first one.
const (
	upOnce    = api.Fix(2594073385365405695)
	upTwice   = api.Fix(3242591731706757118)
	upThrice  = api.Fix(4053239664633446397)
	downOnce  = api.Fix(1556444031219243417)
	downTwice = api.Fix(1167333023414432563)
)

func up(rate api.Fix) api.Fix   { return rate + rate/4 }
func down(rate api.Fix) api.Fix { return rate - rate/4 }

// asker asks a learner for keys that were never asked for, and for the last of them again.
type asker struct {
	t *testing.T
	l *Learner
	n int
}

func (a *asker) request(hits bool) {
	a.t.Helper()
	if !hits {
		a.n++
	}
	if step := a.l.Request(strconv.Itoa(a.n)); step.Hit != hits {
		a.t.Fatalf("Request of %d is %+v", a.n, step)
	}
}

// window asks for a window of so many hits, behind its misses, and holds that the rate moves with its last request alone, to what it should be.
func (a *asker) window(hits int, want api.Fix) {
	a.t.Helper()
	rate, most := a.l.Rate(), a.l.Most()
	for i := range most {
		checkRate(a.t, "request "+strconv.Itoa(i)+" of a window of "+strconv.Itoa(hits)+" hits", a.l, rate)
		a.request(i >= most-hits)
	}
	checkRate(a.t, "a window of "+strconv.Itoa(hits)+" hits", a.l, want)
	checkBounds(a.t, "a window of "+strconv.Itoa(hits)+" hits", a.l)
}

// pacing is a window's hits, and the rate behind it.
type pacing struct {
	hits int
	rate api.Fix
}

// P10.1: a window with more hits moves the rate on, one with fewer the other way, from then on; one with as many, and the first one, don't.
func TestWindows(t *testing.T) {
	for i, windows := range [][]pacing{
		{{0, startRate}}, {{1, startRate}}, {{3, startRate}},
		{{0, startRate}, {1, upOnce}, {2, upTwice}, {3, upThrice}, {4, api.One}},
		{{0, startRate}, {4, upOnce}},
		{{3, startRate}, {4, upOnce}, {3, down(upOnce)}, {4, down(down(upOnce))}},
		{{3, startRate}, {2, downOnce}, {3, downTwice}, {4, down(downTwice)}, {1, up(down(downTwice))}},
		{{3, startRate}, {2, downOnce}, {1, up(downOnce)}, {0, down(up(downOnce))}},
		{{3, startRate}, {0, downOnce}, {0, downOnce}, {1, downTwice}},
		{{2, startRate}, {2, startRate}, {3, upOnce}, {3, upOnce}, {4, upTwice}, {4, upTwice}, {1, down(upTwice)}},
		{{2, startRate}, {2, startRate}, {1, downOnce}, {1, downOnce}, {0, up(downOnce)}, {1, up(up(downOnce))}},
		{{0, startRate}, {0, startRate}, {1, upOnce}, {0, down(upOnce)}, {0, down(upOnce)}, {0, down(upOnce)}, {1, down(down(upOnce))}},
	} {
		a := &asker{t: t, l: made(t, api.Cacheus, 4)}
		for _, w := range windows {
			a.window(w.hits, w.rate)
		}
		if t.Failed() {
			t.Fatalf("windows %d", i)
		}
	}
}

// P10.1: the rate is One at most: there it stays with more hits, and goes down from there with fewer.
func TestGreatestRate(t *testing.T) {
	a := &asker{t: t, l: made(t, api.Cacheus, 9)}
	for hits, rate := range []api.Fix{startRate, upOnce, upTwice, upThrice, api.One, api.One, api.One} {
		a.window(hits, rate)
	}
	a.window(5, 3458764513820540928)
	a.window(6, down(3458764513820540928))
}

// P10.1: the rate is 1 / 1000 at least: there it stays, and goes up from there.
func TestLeastRate(t *testing.T) {
	a := &asker{t: t, l: made(t, api.Cacheus, 30)}
	a.window(1, startRate)
	a.window(0, downOnce)
	rate := downOnce
	for hits := range 20 {
		rate = down(rate)
		a.window(hits+1, rate)
	}
	checkRate(t, "the last one above", a.l, 4935813894085019)
	a.window(21, slowest)
	a.window(22, slowest)
	a.window(22, slowest)
	a.window(23, slowest)
	a.window(20, 5764607523034233)
}

// stand asks a learner of 1 for its resident, so often.
func stand(t *testing.T, l *Learner, times int) {
	t.Helper()
	for range times {
		ask(t, l, "a", hit)
	}
}

// P10.1: at the tenth time in a row that it stands still, the rate is drawn, and such times are counted anew.
func TestTenTimesStill(t *testing.T) {
	tape := draw.New(draws(5, 3), []uint64{3<<60 + 3, high})
	l := madeOf(t, api.Cacheus, 1, tape, 1)
	ask(t, l, "a", miss)
	checkRate(t, "the first window", l, startRate)
	stand(t, l, 1)
	checkRate(t, "more hits", l, upOnce)
	for i, want := range []api.Fix{3 << 58, api.One - 1, slowest, slowest} {
		rate := l.Rate()
		for range 9 {
			stand(t, l, 1)
			checkRate(t, "less than ten times", l, rate)
		}
		if tape.Left(1) != max(2-i, 0) {
			t.Errorf("%d draws are left ahead of the draw %d", tape.Left(1), i)
		}
		stand(t, l, 1)
		checkRate(t, "ten times", l, want)
		if tape.Left(0) != 3 || tape.Left(1) != max(1-i, 0) {
			t.Errorf("%d and %d draws are left behind the draw %d", tape.Left(0), tape.Left(1), i)
		}
	}
}

// P10.1: a window that moves the rate, or would but for its bounds, is one from which the times are counted anew.
func TestStillInARow(t *testing.T) {
	l := made(t, api.Cacheus, 1, low, low, 3<<60)
	ask(t, l, "a", miss)
	stand(t, l, 10)
	checkRate(t, "nine times", l, upOnce)
	ask(t, l, "b", wentFor("a"))
	checkRate(t, "fewer hits", l, down(upOnce))
	ask(t, l, "a", wentFor("b"))
	stand(t, l, 9)
	checkRate(t, "once, then more hits, then eight times", l, down(down(upOnce)))
	stand(t, l, 1)
	checkRate(t, "nine times", l, down(down(upOnce)))
	checkLeft(t, "nine times", l, 1)
	stand(t, l, 1)
	checkRate(t, "ten times", l, 3<<58)
	checkLeft(t, "ten times", l, 0)
	a := &asker{t: t, l: made(t, api.Cacheus, 9)}
	for hits, rate := range []api.Fix{startRate, upOnce, upTwice, upThrice, api.One} {
		a.window(hits, rate)
	}
	for range 9 {
		a.window(4, api.One)
	}
	for range 10 {
		a.window(5, api.One)
	}
	a.window(5, slowest)
}

// P10.1: the first window is held against none, so it isn't one with as many hits either.
func TestFirstWindowIsNotStill(t *testing.T) {
	a := &asker{t: t, l: made(t, api.Cacheus, 2)}
	for range 10 {
		a.window(0, startRate)
	}
	a.window(0, slowest)
}

// P10.1: what is drawn is moved down by 2 bits, and not below 1 / 1000; from there the rate moves on as it moved last.
func TestDrawnRate(t *testing.T) {
	for _, x := range []struct {
		drawn uint64
		want  api.Fix
	}{
		{0, slowest}, {3, slowest}, {uint64(slowest)<<2 - 1, slowest}, {uint64(slowest) << 2, slowest}, {uint64(slowest)<<2 + 4, slowest + 1},
		{uint64(half) << 2, half}, {uint64(half)<<2 + 3, half}, {high - 3, api.One - 1}, {high, api.One - 1}, {1 << 62, api.One / 4},
	} {
		name := "drawn " + strconv.FormatUint(x.drawn, 10)
		l := made(t, api.Cacheus, 1, x.drawn, low, low)
		ask(t, l, "a", miss)
		stand(t, l, 11)
		checkRate(t, name, l, x.want)
		ask(t, l, "b", wentFor("a"))
		checkRate(t, name+", then fewer hits", l, max(down(x.want), slowest))
	}
}

// P10.1: behind a draw the way of the last move holds, whatever the draw.
func TestWayBehindDraw(t *testing.T) {
	a := &asker{t: t, l: made(t, api.Cacheus, 4)}
	a.window(3, startRate)
	a.window(2, downOnce)
	for range 9 {
		a.window(2, downOnce)
	}
	// No draw was left for the rate: so it came to be the least, and the way is down.
	a.window(2, slowest)
	a.window(3, slowest)
	a.window(2, up(slowest))
	for range 9 {
		a.window(2, up(slowest))
	}
	a.window(2, slowest)
	a.window(3, up(slowest))
}

// P10.1: where both take a draw, the one that picks who goes is ahead of the window's; and only one window in ten takes one.
func TestDrawBehindPick(t *testing.T) {
	l := made(t, api.Cacheus, 1, append(draws(low, 9), high, 3<<60, low, high)...)
	request(l, "abcdefghij")
	check(t, "nine went by A's choice", l, state{"j", "j", "i", ""})
	checkRate(t, "nine times", l, startRate)
	checkLeft(t, "nine times", l, 4)
	ask(t, l, "k", wentFor("j"))
	check(t, "one went by B's", l, state{"k", "k", "i", "j"})
	checkRate(t, "ten times", l, 3<<58)
	checkLeft(t, "ten times", l, 2)
	request(l, "lm")
	check(t, "and two more", l, state{"m", "m", "k", "l"})
	checkRate(t, "and two more", l, 3<<58)
	checkLeft(t, "and two more", l, 0)
}

// P10.1: a window's last request regrets by the rate that the windows ahead left, and the next one by the new one.
func TestRegretIsAheadOfWindowsEnd(t *testing.T) {
	l := filled(t, api.Cacheus, 2, "aabc", low, low)
	check(t, "two windows", l, state{"ca", "ca", "b", ""})
	checkRate(t, "two windows", l, downOnce)
	ask(t, l, "c", hit)
	l.Request("b")
	checkRate(t, "the third window", l, downTwice)
	checkWeight(t, "regretted by the rate ahead", l, 2133228314770024689)
}

// P10.1, P10.2: a Resize that shortens a window ends none; the next request does, if the window has as many as that with it, or more.
func TestShorterWindow(t *testing.T) {
	for _, most := range []int{1, 2, 3, 4} {
		l := filled(t, api.Cacheus, 4, "abab")
		request(l, "aaa")
		l.Resize(most)
		checkRate(t, "resized", l, startRate)
		l.Request("x")
		checkRate(t, "the window's end, of 3 hits", l, upOnce)
		for range most - 1 {
			l.Request("x")
			checkRate(t, "the next window goes on", l, upOnce)
		}
		l.Request("x")
		want := map[int]api.Fix{1: down(upOnce), 2: down(upOnce), 3: upOnce, 4: upTwice}[most]
		checkRate(t, "the next window's end, of "+strconv.Itoa(most)+" hits", l, want)
	}
}

// P10.1, P10.2: a Resize that lengthens a window lets it go on, with what it counted.
func TestLongerWindow(t *testing.T) {
	for _, most := range []int{3, 4, 10} {
		l := filled(t, api.Cacheus, 2, "aba")
		resize(t, l, most, "")
		for range most - 2 {
			l.Request("a")
			checkRate(t, "it goes on", l, startRate)
		}
		l.Request("x")
		checkRate(t, "its end", l, upOnce)
		for range most - 1 {
			l.Request("x")
			checkRate(t, "the next window goes on", l, upOnce)
		}
		l.Request("x")
		checkRate(t, "the next window's end", l, upTwice)
	}
}

// P10.1, P10.2: with no room at all a window neither goes on nor ends.
func TestWindowWithoutRoom(t *testing.T) {
	l := filled(t, api.Cacheus, 2, "aba")
	l.Resize(0)
	request(l, "aaaaaaaaa")
	checkRate(t, "no room", l, startRate)
	resize(t, l, 2, "")
	checkRate(t, "room again", l, startRate)
	ask(t, l, "x", miss)
	checkRate(t, "the window's end", l, upOnce)
	l = made(t, api.Cacheus, 0)
	request(l, "aaaaaaaaa")
	resize(t, l, 2, "")
	request(l, "aaa")
	checkRate(t, "the first window and a half", l, startRate)
	request(l, "a")
	checkRate(t, "two windows", l, upOnce)
}

// P10.1, P10.2: nothing but a request is counted by a window.
func TestOthersAreNotCounted(t *testing.T) {
	l := filled(t, api.Cacheus, 3, "aaba")
	remove(t, l, "b", true)
	adopt(t, l, "b", true)
	adopt(t, l, "a", false)
	drop(t, l, "b")
	l.Resize(-1)
	resize(t, l, 3, "")
	l.Has("a")
	checkRate(t, "changed", l, startRate)
	ask(t, l, "a", hit)
	checkRate(t, "two requests", l, startRate)
	ask(t, l, "a", hit)
	checkRate(t, "a window", l, upOnce)
}

// P10.1: of kind 5 there are no windows: the rate never moves, and hits take no draws.
func TestRateOfLeCaR(t *testing.T) {
	for _, most := range []int{1, 2, 4} {
		l := made(t, api.LeCaR, most, draws(3<<60, 5000)...)
		request(l, "a")
		for range 40 * most {
			ask(t, l, "a", hit)
			checkRate(t, "hits", l, startRate)
		}
		checkLeft(t, "hits", l, 5000)
		left := 5000
		for i := range 1000 {
			if step := l.Request(cycle(i, 9)); step.Out {
				left--
			}
			checkRate(t, "requests", l, startRate)
			checkLeft(t, "requests", l, left)
		}
		l.Resize(7)
		request(l, "abcdefgabcdefgaaaaaaaaaaaaaaaaaaaa")
		checkRate(t, "resized", l, startRate)
	}
}
