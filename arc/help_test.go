package arc

import (
	"slices"
	"strconv"
	"strings"
	"testing"

	"cachewise/api"
)

// state is what a cache should be: its rows, a letter each key, T1 and T2 from their last ones on, B1 and B2 from the last that went on.
type state struct {
	most, share    int
	t1, t2, b1, b2 string
}

// filled is a cache of at most so many, of which these keys, a letter each, were asked for, one behind the other.
func filled(most int, keys string) *Cache {
	c := New(most)
	request(c, keys)
	return c
}

// request asks for keys, a letter each.
func request(c *Cache, keys string) {
	for _, key := range letters(keys) {
		c.Request(key)
	}
}

// letters are a text's letters, each a key.
func letters(keys string) []string { return strings.Split(keys, "") }

// much is more than any row of a state has.
const much = 100

// stood is a cache that was brought to a state by calls.
func stood(t *testing.T, s state) *Cache {
	t.Helper()
	c := New(2 * much)
	for i := range s.share {
		c.Request("grow " + strconv.Itoa(i))
	}
	for _, key := range slices.Backward(letters(s.b1)) {
		c.Request(key)
	}
	crowdOut(c)
	for i := range s.share {
		// Of B1, while B2 has none: each lets the share grow by 1.
		c.Request("grow " + strconv.Itoa(i))
		c.Remove("grow " + strconv.Itoa(i))
	}
	for _, key := range slices.Backward(letters(s.b2)) {
		request(c, key+key)
	}
	crowdOut(c)
	for _, key := range letters(s.t2) {
		request(c, key+key)
	}
	for _, key := range letters(s.t1) {
		c.Request(key)
	}
	c.Resize(s.most)
	check(t, "stood", c, s)
	return c
}

// crowdOut lets all residents go, as ghosts, for others, which are removed then.
func crowdOut(c *Cache) {
	for i := range 2 * much {
		c.Request("crowd " + strconv.Itoa(i/2))
	}
	c.Resize(much)
	for i := range much {
		c.Remove("crowd " + strconv.Itoa(i))
	}
	c.Resize(2 * much)
}

// check holds all that a cache tells without a change against what it should be.
func check(t *testing.T, name string, c *Cache, s state) {
	t.Helper()
	checkRows(t, name, c, s.most, s.share, letters(s.t1), letters(s.t2), letters(s.b1), letters(s.b2))
}

func checkRows(t *testing.T, name string, c *Cache, most, share int, t1, t2, b1, b2 []string) {
	t.Helper()
	residents, ghosts := slices.Concat(t1, t2), slices.Concat(b1, b2)
	if got := c.Keys(); !slices.Equal(got, residents) {
		t.Errorf("%s: the residents are %q; want %q", name, got, residents)
	}
	if got := c.Ghosts(); !slices.Equal(got, ghosts) {
		t.Errorf("%s: the ghosts are %q; want %q", name, got, ghosts)
	}
	if got, want := c.Sizes(), [4]int{len(t1), len(t2), len(b1), len(b2)}; got != want {
		t.Errorf("%s: the sizes are %v; want %v", name, got, want)
	}
	if c.Len() != len(residents) || c.Share() != share {
		t.Errorf("%s: %d residents, the share is %d; want %d, %d", name, c.Len(), c.Share(), len(residents), share)
	}
	checkVictim(t, name, c, share, t1, t2)
	checkBounds(t, name, c, most)
}

// checkVictim holds who would go against the last one of T1, if that has more than its share, or else of T2, if there is one.
func checkVictim(t *testing.T, name string, c *Cache, share int, t1, t2 []string) {
	t.Helper()
	from := t2
	if len(t1) > share || len(t2) == 0 {
		from = t1
	}
	want := ""
	if len(from) > 0 {
		want = from[0]
	}
	if key, ok := c.Victim(); key != want || ok != (len(from) > 0) {
		t.Errorf("%s: Victim is %q, %v; want %q", name, key, ok, want)
	}
}

// checkBounds holds that residents are resident, that no ghost is, and that there are no more of them than may be.
func checkBounds(t *testing.T, name string, c *Cache, most int) {
	t.Helper()
	seen := map[string]int{}
	for _, key := range c.Keys() {
		seen[key]++
		if !c.Has(key) {
			t.Errorf("%s: %q isn't resident", name, key)
		}
	}
	for _, key := range c.Ghosts() {
		seen[key]++
		if c.Has(key) {
			t.Errorf("%s: %q, a ghost, is resident", name, key)
		}
	}
	for key, n := range seen {
		if n != 1 {
			t.Errorf("%s: %q is there %d times", name, key, n)
		}
	}
	sizes := c.Sizes()
	all := sizes[0] + sizes[1] + sizes[2] + sizes[3]
	if sizes[0]+sizes[1] > most || sizes[0]+sizes[2] > most || all-most > most || c.Share() < 0 || c.Share() > most {
		t.Errorf("%s: of %d: the sizes are %v, the share is %d", name, most, sizes, c.Share())
	}
}

// turn is a state, a call of a key, what it answers, and the state behind it.
type turn struct {
	name   string
	before state
	key    string
	want   api.Step
	after  state
}

// askAll holds each turn's request.
func askAll(t *testing.T, turns []turn) {
	t.Helper()
	for _, x := range turns {
		c := stood(t, x.before)
		if got := c.Request(x.key); got != x.want {
			t.Errorf("%s: Request of %q is %+v; want %+v", x.name, x.key, got, x.want)
		}
		check(t, x.name, c, x.after)
	}
}

// ask holds what a request answers against what it should be.
func ask(t *testing.T, c *Cache, key string, want api.Step) {
	t.Helper()
	if got := c.Request(key); got != want {
		t.Errorf("Request of %q is %+v; want %+v", key, got, want)
	}
}

// resize holds who went at a Resize against who should have gone, in order, a letter each.
func resize(t *testing.T, c *Cache, most int, want string) {
	t.Helper()
	if got := c.Resize(most); !slices.Equal(got, letters(want)) {
		t.Errorf("Resize to %d is %q; want %q", most, got, want)
	}
}

// drop holds who went at a Drop against who should have gone.
func drop(t *testing.T, c *Cache, want string) {
	t.Helper()
	if key, ok := c.Drop(); key != want || !ok {
		t.Errorf("Drop is %q, %v; want %q", key, ok, want)
	}
	if c.Has(want) || slices.Contains(c.Ghosts(), want) {
		t.Errorf("%q is there behind Drop", want)
	}
}

// dropNone holds that there is nobody who could go.
func dropNone(t *testing.T, c *Cache) {
	t.Helper()
	if key, ok := c.Victim(); key != "" || ok {
		t.Errorf("Victim of none is %q, %v", key, ok)
	}
	if key, ok := c.Drop(); key != "" || ok {
		t.Errorf("Drop of none is %q, %v", key, ok)
	}
}

// adopt holds whether a key is adopted against whether it should be.
func adopt(t *testing.T, c *Cache, key string, want bool) {
	t.Helper()
	if got := c.Adopt(key); got != want {
		t.Errorf("Adopt of %q is %v", key, got)
	}
}

// remove holds whether a key was resident against whether it should have been.
func remove(t *testing.T, c *Cache, key string, want bool) {
	t.Helper()
	if got := c.Remove(key); got != want {
		t.Errorf("Remove of %q is %v", key, got)
	}
	if c.Has(key) || slices.Contains(c.Ghosts(), key) || c.Remove(key) {
		t.Errorf("%q is there behind Remove", key)
	}
}

var (
	hit  = api.Step{Hit: true}
	miss = api.Step{}
)

// wentFor is the step of a miss for which a resident went.
func wentFor(victim string) api.Step { return api.Step{Victim: victim, Out: true} }
