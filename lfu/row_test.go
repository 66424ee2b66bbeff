package lfu

import (
	"slices"
	"strconv"
	"testing"

	"cachewise/api"
)

// asked is how often a resident was asked for, and when last, by a count of all that was done.
type asked struct{ times, last int }

// row is a cache as plainly as can be.
type row struct {
	most  int
	churn bool
	now   int
	asked map[string]asked
}

func (r *row) has(key string) bool {
	_, ok := r.asked[key]
	return ok
}

func (r *row) touch(key string) {
	r.now++
	r.asked[key] = asked{r.asked[key].times + 1, r.now}
}

// residents are all of them, those that go first ahead.
func (r *row) residents() []resident {
	var all []resident
	for key, a := range r.asked {
		all = append(all, resident{key, a.times})
	}
	slices.SortFunc(all, func(a, b resident) int {
		switch older := r.asked[a.key].last - r.asked[b.key].last; {
		case a.times != b.times:
			return a.times - b.times
		case r.churn:
			return -older
		default:
			return older
		}
	})
	return all
}

func (r *row) drop() (string, bool) {
	all := r.residents()
	if len(all) == 0 {
		return "", false
	}
	delete(r.asked, all[0].key)
	return all[0].key, true
}

func (r *row) request(key string) (step api.Step) {
	switch {
	case r.most <= 0:
		return step
	case r.has(key):
		step.Hit = true
	case len(r.asked) == r.most:
		step.Victim, step.Out = r.drop()
	}
	r.touch(key)
	return step
}

func (r *row) remove(key string) bool {
	was := r.has(key)
	delete(r.asked, key)
	return was
}

func (r *row) adopt(key string) bool {
	if r.has(key) || len(r.asked) >= r.most {
		return false
	}
	r.touch(key)
	return true
}

func (r *row) resize(most int) []string {
	r.most = most
	var gone []string
	for len(r.asked) > max(most, 0) {
		key, _ := r.drop()
		gone = append(gone, key)
	}
	return gone
}

// step does one of the changes with both, and tells whether they answer the same.
func step(c *Cache, r *row, kind uint64, key string, most int) bool {
	switch {
	case kind < 26:
		return c.Request(key) == r.request(key) && (r.most <= 0 || c.Has(key))
	case kind < 29:
		return c.Adopt(key) == r.adopt(key)
	case kind < 33:
		return c.Remove(key) == r.remove(key)
	case kind < 36:
		got, ok := c.Drop()
		want, some := r.drop()
		return got == want && ok == some
	case kind < 38:
		return slices.Equal(c.Resize(most), r.resize(most))
	}
	return true
}

// keyOf lets 0 be the empty key.
func keyOf(n uint64) string {
	if n == 0 {
		return ""
	}
	return strconv.FormatUint(n, 10)
}

// P6.1: a long run of changes, of few keys and of many, with little room and with much, leaves what the plain row says.
func TestAgainstRow(t *testing.T) {
	inBothWays(t, func(t *testing.T, churn bool) {
		for _, kinds := range []uint64{1, 2, 3, 6, 15, 60} {
			for _, most := range []int{-1, 0, 1, 2, 3, 8, 30} {
				againstRow(t, kinds, most, churn)
			}
		}
	})
}

func againstRow(t *testing.T, kinds uint64, most int, churn bool) {
	t.Helper()
	c, r, x := New(most, churn), &row{most: most, churn: churn, asked: map[string]asked{}}, kinds+uint64(most+1)<<8
	for i := range 1500 {
		x = x*6364136223846793005 + 1442695040888963407
		key := keyOf(x >> 40 % kinds)
		other := int(x>>20%64)%(2*max(most, 1)+2) - 1
		name := strconv.FormatUint(kinds, 10) + " keys, most " + strconv.Itoa(most) + ", step " + strconv.Itoa(i)
		if !step(c, r, x>>33%40, key, other) {
			t.Fatalf("%s: the answers of %q differ", name, key)
		}
		if c.Has(key) != r.has(key) || c.Times(key) != r.asked[key].times || c.Len() > max(r.most, 0) {
			t.Fatalf("%s: Has of %q is %v, Times %d, with %d residents of %d", name, key, c.Has(key), c.Times(key), c.Len(), r.most)
		}
		checkRow(t, name, c, r.residents())
		if t.Failed() {
			return
		}
	}
	want := c.Keys()
	if got := dropAll(c); !slices.Equal(got, want) {
		t.Errorf("dropped %q; the order was %q", got, want)
	}
}

// P6.2: whoever goes, and however, nobody who stays was asked for fewer times.
func TestVictimOfTheFewestTimes(t *testing.T) {
	inBothWays(t, func(t *testing.T, churn bool) {
		c, x, went := New(12, churn), uint64(1), 0
		for range 4000 {
			x = x*6364136223846793005 + 1442695040888963407
			// The least of two, so that some keys are asked for far more often than others.
			key := keyOf(min(x>>40%40, x>>50%40))
			times := timesOf(c)
			if victim, ok := c.Victim(); ok {
				fewestWent(t, times, []string{victim})
			}
			var gone []string
			switch x >> 33 % 16 {
			case 0:
				gone = c.Resize(6)
				c.Resize(12)
			case 1, 2:
				if victim, ok := c.Drop(); ok {
					gone = []string{victim}
				}
			default:
				if s := c.Request(key); s.Out {
					gone = []string{s.Victim}
				}
			}
			fewestWent(t, times, gone)
			went += len(gone)
		}
		if went < 1000 {
			t.Errorf("only %d went: the run tells little", went)
		}
	})
}

// timesOf is how often each resident was asked for.
func timesOf(c *Cache) map[string]int {
	times := map[string]int{}
	for _, key := range c.Keys() {
		times[key] = c.Times(key)
	}
	return times
}

// fewestWent holds that nobody of those gone had been asked for more times than one who stayed.
func fewestWent(t *testing.T, times map[string]int, gone []string) {
	t.Helper()
	for _, victim := range gone {
		for key, n := range times {
			if !slices.Contains(gone, key) && times[victim] > n {
				t.Fatalf("%q went, asked for %d times; %q stayed, %d times", victim, times[victim], key, n)
			}
		}
	}
}

// P6.1, P6.2: a great cache lets them go by their times, and of the same ones by its way.
func TestManyKeys(t *testing.T) {
	const many = 50000
	inBothWays(t, func(t *testing.T, churn bool) {
		c := New(many, churn)
		for i := range many {
			c.Request(strconv.Itoa(i))
		}
		for i := many - 1; i >= many/2; i-- {
			if s := c.Request(strconv.Itoa(i)); s != hit {
				t.Fatalf("Request of %d is %+v", i, s)
			}
		}
		for i := range many / 2 {
			victim := strconv.Itoa(i)
			if churn && i > 0 {
				victim = "new " + strconv.Itoa(i-1)
			} else if churn {
				victim = strconv.Itoa(many/2 - 1)
			}
			if s := c.Request("new " + strconv.Itoa(i)); s != wentFor(victim) {
				t.Fatalf("new %d: %+v", i, s)
			}
		}
		gone, last := c.Resize(1), many/2
		if churn {
			last = many - 1
		}
		if len(gone) != many-1 {
			t.Errorf("%d went", len(gone))
		}
		check(t, "the last one", c, strconv.Itoa(last)+"2")
	})
}
