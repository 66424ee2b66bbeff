package lru

import (
	"slices"
	"strconv"
	"testing"

	"cachewise/api"
)

// row is a cache as plainly as can be: when each resident was asked for last, by a count of all that was done.
type row struct {
	most  int
	now   int
	asked map[string]int
}

func (r *row) has(key string) bool {
	_, ok := r.asked[key]
	return ok
}

func (r *row) touch(key string) {
	r.now++
	r.asked[key] = r.now
}

// keys are all residents, by when they were asked for.
func (r *row) keys() []string {
	keys := []string{}
	for key := range r.asked {
		keys = append(keys, key)
	}
	slices.SortFunc(keys, func(a, b string) int { return r.asked[a] - r.asked[b] })
	return keys
}

func (r *row) drop() (string, bool) {
	keys := r.keys()
	if len(keys) == 0 {
		return "", false
	}
	delete(r.asked, keys[0])
	return keys[0], true
}

func (r *row) request(key string) (step api.Step) {
	switch {
	case r.most <= 0:
		return step
	case r.has(key):
		step.Hit = true
	case len(r.asked) == r.most:
		step.Victim, step.Out = r.drop()
	}
	r.touch(key)
	return step
}

func (r *row) remove(key string) bool {
	was := r.has(key)
	delete(r.asked, key)
	return was
}

func (r *row) adopt(key string) bool {
	if r.has(key) || len(r.asked) >= r.most {
		return false
	}
	r.touch(key)
	return true
}

func (r *row) resize(most int) []string {
	r.most = most
	var gone []string
	for len(r.asked) > max(most, 0) {
		key, _ := r.drop()
		gone = append(gone, key)
	}
	return gone
}

// step does one of the changes with both, and tells whether they answer the same.
func step(c *Cache, r *row, kind uint64, key string, most int) bool {
	switch {
	case kind < 22:
		return c.Request(key) == r.request(key) && (r.most <= 0 || c.Has(key))
	case kind < 27:
		return c.Adopt(key) == r.adopt(key)
	case kind < 32:
		return c.Remove(key) == r.remove(key)
	case kind < 36:
		got, ok := c.Drop()
		want, some := r.drop()
		return got == want && ok == some
	case kind < 38:
		return slices.Equal(c.Resize(most), r.resize(most))
	}
	return true
}

// keyOf lets 0 be the empty key.
func keyOf(n uint64) string {
	if n == 0 {
		return ""
	}
	return strconv.FormatUint(n, 10)
}

// P5.1, P5.2, P5.3: a long run of changes, of few keys and of many, with little room and with much, leaves what the plain row says.
func TestAgainstRow(t *testing.T) {
	for _, kinds := range []uint64{1, 2, 3, 6, 15, 60} {
		for _, most := range []int{-1, 0, 1, 2, 3, 8, 30} {
			againstRow(t, kinds, most)
		}
	}
}

func againstRow(t *testing.T, kinds uint64, most int) {
	c, r, x := New(most), &row{most: most, asked: map[string]int{}}, kinds+uint64(most+1)<<8
	for i := range 1500 {
		x = x*6364136223846793005 + 1442695040888963407
		key := keyOf(x >> 40 % kinds)
		other := int(x>>20%64)%(2*max(most, 1)+2) - 1
		name := strconv.FormatUint(kinds, 10) + " keys, most " + strconv.Itoa(most) + ", step " + strconv.Itoa(i)
		if !step(c, r, x>>33%40, key, other) {
			t.Fatalf("%s: the answers of %q differ", name, key)
		}
		if c.Has(key) != r.has(key) || c.Len() > max(r.most, 0) {
			t.Fatalf("%s: Has of %q is %v, with %d residents of %d", name, key, c.Has(key), c.Len(), r.most)
		}
		check(t, name, c, r.keys()...)
		if t.Failed() {
			return
		}
	}
	want := c.Keys()
	if got := dropAll(c); !slices.Equal(got, want) {
		t.Errorf("dropped %q; the order was %q", got, want)
	}
}

// P5.1, P5.2, P5.3: a great cache lets them go in the order in which they were asked for.
func TestManyKeys(t *testing.T) {
	const many = 100000
	c := New(many)
	for i := range many {
		c.Request(strconv.Itoa(i))
	}
	for i := many - 1; i >= 0; i-- {
		if s := c.Request(strconv.Itoa(i)); s != hit {
			t.Fatalf("Request of %d is %+v", i, s)
		}
	}
	for i := range many / 2 {
		if s := c.Request("new " + strconv.Itoa(i)); s != wentFor(strconv.Itoa(many-1-i)) {
			t.Fatalf("new %d: %+v", i, s)
		}
	}
	gone := c.Resize(1)
	if len(gone) != many-1 || gone[0] != strconv.Itoa(many/2-1) || gone[many/2-1] != "0" || gone[many/2] != "new 0" {
		t.Errorf("%d went", len(gone))
	}
	check(t, "the last one", c, "new "+strconv.Itoa(many/2-1))
}
