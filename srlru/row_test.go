package srlru

import (
	"slices"
	"strconv"
	"testing"

	"cachewise/api"
)

// The rows of a key.
const (
	inN = iota
	inA
	inGhosts
)

// seat is a key with its row, when it came to that row's front, by a count of all that was done, and how it is told.
type seat struct {
	key      string
	row, at  int
	old, was bool // told as old; was demoted
}

// plain is a cache as plainly as can be: all keys that it knows of, in no order.
type plain struct {
	most, target, now int
	seats             []seat
}

func newPlain(most int) *plain {
	most = max(most, 0)
	return &plain{most: most, target: most / 2}
}

// row is the keys of a row, the last one first.
func (p *plain) row(row int) []string {
	var in []seat
	for _, s := range p.seats {
		if s.row == row {
			in = append(in, s)
		}
	}
	slices.SortFunc(in, func(a, b seat) int { return a.at - b.at })
	var keys []string
	for _, s := range in {
		keys = append(keys, s.key)
	}
	return keys
}

func (p *plain) ghosts() []string {
	keys := p.row(inGhosts)
	slices.Reverse(keys)
	return keys
}

func (p *plain) find(key string) (seat, bool) {
	for _, s := range p.seats {
		if s.key == key {
			return s, true
		}
	}
	return seat{}, false
}

func (p *plain) has(key string) bool {
	s, ok := p.find(key)
	return ok && s.row != inGhosts
}

func (p *plain) len() int { return len(p.row(inN)) + len(p.row(inA)) }

func (p *plain) forget(key string) {
	p.seats = slices.DeleteFunc(p.seats, func(s seat) bool { return s.key == key })
}

// put lets a key stand at a row's front, told so.
func (p *plain) put(s seat, row int) {
	p.forget(s.key)
	p.now++
	s.row, s.at = row, p.now
	p.seats = append(p.seats, s)
}

// victim is who would go.
func (p *plain) victim() (string, bool) {
	keys := append(p.row(inN), p.row(inA)...)
	if len(keys) == 0 {
		return "", false
	}
	return keys[0], true
}

// evict lets the victim go as a ghost.
func (p *plain) evict() string {
	key, _ := p.victim()
	s, _ := p.find(key)
	p.put(seat{key: key, old: s.old}, inGhosts)
	p.trim()
	return key
}

func (p *plain) trim() {
	for ghosts := p.ghosts(); len(ghosts) > p.most; ghosts = p.ghosts() {
		p.forget(ghosts[len(ghosts)-1])
	}
}

func (p *plain) demote() {
	for again := p.row(inA); len(again) > p.target && len(again) > 1; again = p.row(inA) {
		p.put(seat{key: again[0], old: true, was: true}, inN)
	}
}

// room lets a victim go, where there is no room left, and tells it.
func (p *plain) room() (step api.Step) {
	if p.len() >= p.most {
		step.Victim, step.Out = p.evict(), true
	}
	return step
}

func (p *plain) request(key string) (step api.Step) {
	s, known := p.find(key)
	if p.most == 0 {
		return step
	}
	if !known {
		step = p.room()
		p.put(seat{key: key}, inN)
		return step
	}
	switch s.row {
	case inN:
		step.Hit = true
		if s.was {
			p.target = min(p.target+1, p.most)
		}
	case inA:
		step.Hit = true
	case inGhosts:
		if !s.old && p.target >= 1 {
			p.target = max(p.target-1, 1)
		}
		p.forget(key)
		step = p.room()
	}
	p.put(seat{key: key, old: true}, inA)
	if s.row != inA {
		p.demote()
	}
	return step
}

func (p *plain) remove(key string) bool {
	was := p.has(key)
	p.forget(key)
	return was
}

func (p *plain) adopt(key string) bool {
	if p.has(key) || p.len() >= p.most {
		return false
	}
	p.put(seat{key: key}, inN)
	return true
}

func (p *plain) drop() (string, bool) {
	key, ok := p.victim()
	if ok {
		p.forget(key)
	}
	return key, ok
}

func (p *plain) resize(most int) []string {
	p.most = max(most, 0)
	p.target = min(p.target, p.most)
	var gone []string
	for p.len() > p.most {
		gone = append(gone, p.evict())
	}
	p.trim()
	return gone
}

// step does one of the changes with both, and tells whether they answer the same.
func step(c *Cache, p *plain, kind uint64, key string, most int) bool {
	switch {
	case kind < 52:
		return c.Request(key) == p.request(key) && (p.most == 0 || c.Has(key))
	case kind < 56:
		return c.Adopt(key) == p.adopt(key)
	case kind < 60:
		return c.Remove(key) == p.remove(key)
	case kind < 62:
		got, ok := c.Drop()
		want, some := p.drop()
		return got == want && ok == some
	case kind < 63:
		return slices.Equal(c.Resize(most), p.resize(most))
	}
	return true
}

// keyOf lets 0 be the empty key.
func keyOf(n uint64) string {
	if n == 0 {
		return ""
	}
	return strconv.FormatUint(n, 10)
}

// P7.1, P7.2, P7.3: a long run of changes, of few keys and of many, with little room and with much, leaves what the plain rows say.
func TestAgainstPlain(t *testing.T) {
	for _, kinds := range []uint64{1, 2, 3, 6, 15, 60} {
		for _, most := range []int{-1, 0, 1, 2, 3, 8, 30} {
			againstPlain(t, kinds, most)
		}
	}
}

func againstPlain(t *testing.T, kinds uint64, most int) {
	t.Helper()
	c, p, x := New(most), newPlain(most), kinds+uint64(most+1)<<8
	for i := range 1500 {
		x = x*6364136223846793005 + 1442695040888963407
		key := keyOf(x >> 40 % kinds)
		other := int(x>>20%64)%(2*max(most, 1)+2) - 1
		name := strconv.FormatUint(kinds, 10) + " keys, most " + strconv.Itoa(most) + ", step " + strconv.Itoa(i)
		if !step(c, p, x>>33%64, key, other) {
			t.Fatalf("%s: the answers of %q differ", name, key)
		}
		if c.Has(key) != p.has(key) || c.Len() > p.most || len(c.Ghosts()) > p.most || c.Target() > p.most || c.Again() > max(c.Target(), 1) {
			t.Fatalf("%s: Has of %q is %v; %d residents, %d of them asked for again, the target %d, %d ghosts, of %d", name, key, c.Has(key), c.Len(), c.Again(), c.Target(), len(c.Ghosts()), p.most)
		}
		checkRows(t, name, c, p.row(inN), p.row(inA), p.ghosts(), p.target)
		if t.Failed() {
			return
		}
	}
	want, ghosts := c.Keys(), c.Ghosts()
	if got := dropAll(c); !slices.Equal(got, want) || !slices.Equal(c.Ghosts(), ghosts) {
		t.Errorf("dropped %q; the order was %q", got, want)
	}
}

// P7.1, P7.2, P7.3: a great cache lets the new ones go first, and its ghosts come back.
func TestManyKeys(t *testing.T) {
	const many = 60000
	c := New(many)
	for i := range many {
		c.Request(strconv.Itoa(i))
	}
	for i := range many / 2 {
		if s := c.Request(strconv.Itoa(i)); s != hit {
			t.Fatalf("Request of %d is %+v", i, s)
		}
	}
	for i := range 2 * many {
		victim := strconv.Itoa(many/2 + i)
		if i >= many/2 {
			victim = "new " + strconv.Itoa(i-many/2)
		}
		if s := c.Request("new " + strconv.Itoa(i)); s != wentFor(victim) {
			t.Fatalf("new %d: %+v", i, s)
		}
	}
	if c.Again() != many/2 || c.Target() != many/2 || len(c.Ghosts()) != many {
		t.Errorf("%d asked for again, the target %d, %d ghosts", c.Again(), c.Target(), len(c.Ghosts()))
	}
	for i := range many / 4 {
		if s := c.Request("new " + strconv.Itoa(many+i)); s.Hit || !s.Out {
			t.Fatalf("back, new %d: %+v", many+i, s)
		}
	}
	if c.Again() != many/4 || c.Target() != many/4 {
		t.Errorf("%d asked for again, the target %d, behind the ghosts", c.Again(), c.Target())
	}
	if gone := c.Resize(1); len(gone) != many-1 || c.Len() != 1 || c.Target() != 1 || len(c.Ghosts()) != 1 {
		t.Errorf("%d went, %d are left, the target %d", len(gone), c.Len(), c.Target())
	}
}
