package choose

import (
	"strconv"
	"testing"

	"cachewise/api"
)

// plainBeaten tells by the words whether a kind is beaten by any other.
func plainBeaten(scores numbers, now, margin int) bool {
	for kind, score := range scores {
		if kind != now && now >= 0 && now < api.Kinds && scores[now] >= score+margin+1 {
			return true
		}
	}
	return false
}

// plainBest tells by the words the kind that has none below it, and none that is alike ahead of it.
func plainBest(scores numbers) int {
	for kind, score := range scores {
		is := true
		for other, another := range scores {
			is = is && (another > score || another == score && other >= kind)
		}
		if is {
			return kind
		}
	}
	return -1
}

// chanceAsking is an asking where most kinds are beaten, told by a row of numbers that looks like chance.
func chanceAsking(x uint64, wide int) (asking, uint64) {
	var a asking
	for kind := range a.scores {
		x = next(x)
		a.scores[kind] = below(x, wide)
	}
	x = next(x)
	a.now = below(x, api.Kinds)
	x = next(x)
	switch below(x, 60) {
	case 0:
		a.pinned = true
	case 1:
		a.moving = true
	case 2:
		a.pinned, a.moving = true, true
	case 3:
		a.now = noKinds[below(next(x), len(noKinds))]
	}
	return a, x
}

// P13.1, P13.2, P13.3: in long runs one is told just where the row of windows, since the last one that broke it, is so many times the hold.
func TestRun(t *testing.T) {
	for i, margin := range []int{0, 1, 3, 20, 1 << 30} {
		for _, hold := range []int{1, 2, 3, 5, 17, 64} {
			s := made(t, margin, hold)
			x := uint64(i*100 + hold)
			wide := max(margin, 4) * 40
			row, many := 0, 0
			for n := range 4000 {
				var a asking
				a, x = chanceAsking(x, wide)
				// So that the longer rows come to their ends too.
				if hold > 5 && n%200 > 10 {
					a = asking{scores: a.scores, now: 6}
					a.scores[6] = wide + margin
				}
				name := "margin " + strconv.Itoa(margin) + ", hold " + strconv.Itoa(hold) + ", window " + strconv.Itoa(n)
				if a.pinned || a.moving || !plainBeaten(a.scores, a.now, margin) {
					row = 0
					none(t, name, s, a, 0)
					continue
				}
				row++
				if row%hold != 0 {
					none(t, name, s, a, row%hold)
					continue
				}
				many++
				told(t, name, s, a, plainBest(a.scores))
			}
			if many < 5 {
				t.Errorf("margin %d, hold %d: told %d times", margin, hold, many)
			}
		}
	}
}

// P13.2: what is told hangs on what was asked alone: of the same askings two selectors tell the same.
func TestSame(t *testing.T) {
	one, other := made(t, 1, 3), made(t, 1, 3)
	x := uint64(5)
	for range 3000 {
		var a asking
		a, x = chanceAsking(x, 30)
		kind, ok := one.Ask(a.scores, a.now, a.pinned, a.moving)
		check(t, "the other", other, a, kind, ok, one.Counted())
	}
}
