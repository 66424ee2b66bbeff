package srlru

import (
	"slices"
	"strings"
	"testing"

	"cachewise/api"
)

// filled is a cache of at most so many, of which these keys, a letter each, were asked for, one behind the other.
func filled(most int, keys string) *Cache {
	c := New(most)
	request(c, keys)
	return c
}

// request asks for keys, a letter each.
func request(c *Cache, keys string) {
	for _, key := range letters(keys) {
		c.Request(key)
	}
}

// letters are a text's letters, each a key.
func letters(keys string) []string { return strings.Split(keys, "") }

// check holds all that a cache tells without a change against the rows that it should have, a letter each key:
// N and A from their last ones on, the ghosts from the last that went on.
func check(t *testing.T, name string, c *Cache, fresh, again, ghosts string, target int) {
	t.Helper()
	checkRows(t, name, c, letters(fresh), letters(again), letters(ghosts), target)
}

func checkRows(t *testing.T, name string, c *Cache, fresh, again, ghosts []string, target int) {
	t.Helper()
	want := slices.Concat(fresh, again)
	if got := c.Keys(); !slices.Equal(got, want) {
		t.Errorf("%s: the residents are %q; want %q", name, got, want)
	}
	if c.Len() != len(want) || c.Again() != len(again) {
		t.Errorf("%s: %d residents, %d asked for again; want %d, %d", name, c.Len(), c.Again(), len(want), len(again))
	}
	if got := c.Ghosts(); !slices.Equal(got, ghosts) {
		t.Errorf("%s: the ghosts are %q; want %q", name, got, ghosts)
	}
	if c.Target() != target {
		t.Errorf("%s: the target is %d; want %d", name, c.Target(), target)
	}
	first := ""
	if len(want) > 0 {
		first = want[0]
	}
	if key, ok := c.Victim(); key != first || ok != (len(want) > 0) {
		t.Errorf("%s: Victim is %q, %v; want %q", name, key, ok, first)
	}
	checkApart(t, name, c)
}

// checkApart holds that residents are resident, that no ghost is, and that nothing is kept of any other key.
func checkApart(t *testing.T, name string, c *Cache) {
	t.Helper()
	for _, key := range c.Keys() {
		if !c.Has(key) {
			t.Errorf("%s: %q isn't resident", name, key)
		}
	}
	ghosts := c.Ghosts()
	for _, key := range ghosts {
		if c.Has(key) {
			t.Errorf("%s: %q, a ghost, is resident", name, key)
		}
	}
	for key := range c.old {
		if !c.Has(key) && !slices.Contains(ghosts, key) {
			t.Errorf("%s: %q, neither resident nor a ghost, is told as old", name, key)
		}
	}
}

// ask holds what a request answers against what it should be.
func ask(t *testing.T, c *Cache, key string, want api.Step) {
	t.Helper()
	if got := c.Request(key); got != want {
		t.Errorf("Request of %q is %+v; want %+v", key, got, want)
	}
}

// resize holds who went at a Resize against who should have gone, in order, a letter each.
func resize(t *testing.T, c *Cache, most int, want string) {
	t.Helper()
	if got := c.Resize(most); !slices.Equal(got, letters(want)) {
		t.Errorf("Resize to %d is %q; want %q", most, got, want)
	}
}

// drop holds who went at a Drop against who should have gone.
func drop(t *testing.T, c *Cache, want string) {
	t.Helper()
	if key, ok := c.Drop(); key != want || !ok {
		t.Errorf("Drop is %q, %v; want %q", key, ok, want)
	}
}

// adopt holds whether a key is adopted against whether it should be.
func adopt(t *testing.T, c *Cache, key string, want bool) {
	t.Helper()
	if got := c.Adopt(key); got != want {
		t.Errorf("Adopt of %q is %v", key, got)
	}
}

// remove holds whether a key was resident against whether it should have been.
func remove(t *testing.T, c *Cache, key string, want bool) {
	t.Helper()
	if got := c.Remove(key); got != want {
		t.Errorf("Remove of %q is %v", key, got)
	}
	if c.Has(key) || slices.Contains(c.Ghosts(), key) || c.Remove(key) {
		t.Errorf("%q is there behind Remove", key)
	}
}

// dropAll lets victims go till none is left.
func dropAll(c *Cache) []string {
	var keys []string
	for range 1 << 20 {
		key, ok := c.Drop()
		if !ok {
			break
		}
		keys = append(keys, key)
	}
	return keys
}

var (
	hit  = api.Step{Hit: true}
	miss = api.Step{}
)

// wentFor is the step of a miss for which a resident went.
func wentFor(victim string) api.Step { return api.Step{Victim: victim, Out: true} }
