package arc

import (
	"slices"
	"strconv"
	"testing"

	"cachewise/api"
)

// plain is a cache as plainly as can be: four rows, each from its last one on.
type plain struct {
	most, p        int
	t1, t2, b1, b2 []string
}

func newPlain(most int) *plain { return &plain{most: max(most, 0)} }

func without(row []string, key string) []string {
	return slices.DeleteFunc(row, func(other string) bool { return other == key })
}

// forget takes a key out of all rows.
func (p *plain) forget(key string) {
	p.t1, p.t2, p.b1, p.b2 = without(p.t1, key), without(p.t2, key), without(p.b1, key), without(p.b2, key)
}

func (p *plain) has(key string) bool { return slices.Contains(p.t1, key) || slices.Contains(p.t2, key) }

func (p *plain) len() int { return len(p.t1) + len(p.t2) }

func (p *plain) all() int { return p.len() + len(p.b1) + len(p.b2) }

// evict lets one go as a ghost, as room is made.
func (p *plain) evict(inB2 bool) string {
	more := len(p.t1) > p.p
	asMany := len(p.t1) == p.p && inB2
	if len(p.t1) > 0 && (more || asMany) || len(p.t2) == 0 {
		key := p.t1[0]
		p.t1, p.b1 = p.t1[1:], append(p.b1, key)
		return key
	}
	key := p.t2[0]
	p.t2, p.b2 = p.t2[1:], append(p.b2, key)
	return key
}

// room makes room, if there is none, and tells who went.
func (p *plain) room(inB2 bool) (step api.Step) {
	if p.len() >= p.most {
		step.Victim, step.Out = p.evict(inB2), true
	}
	return step
}

func (p *plain) request(key string) (step api.Step) {
	inB1, inB2 := slices.Contains(p.b1, key), slices.Contains(p.b2, key)
	switch {
	case p.most == 0:
		return step
	case p.has(key):
		step.Hit = true
	case inB1:
		p.p = min(p.p+max(len(p.b2)/len(p.b1), 1), p.most)
		step = p.room(false)
	case inB2:
		p.p = max(p.p-max(len(p.b1)/len(p.b2), 1), 0)
		step = p.room(true)
	default:
		step = p.other()
		p.t1 = append(p.t1, key)
		return step
	}
	p.forget(key)
	p.t2 = append(p.t2, key)
	return step
}

// other lets who has to go for a key that is in no row go.
func (p *plain) other() (step api.Step) {
	if len(p.t1)+len(p.b1) >= p.most {
		if len(p.t1) < p.most {
			p.b1 = p.b1[1:]
			return p.room(false)
		}
		step.Victim, step.Out = p.t1[0], true
		p.t1 = p.t1[1:]
		return step
	}
	if p.all() < p.most {
		return step
	}
	if p.all() >= 2*p.most {
		p.b2 = p.b2[1:]
	}
	return p.room(false)
}

func (p *plain) remove(key string) bool {
	was := p.has(key)
	p.forget(key)
	return was
}

func (p *plain) adopt(key string) bool {
	if p.has(key) || p.len() >= p.most {
		return false
	}
	p.forget(key)
	p.t1 = append(p.t1, key)
	p.trim()
	return true
}

func (p *plain) drop() (key string, ok bool) {
	switch {
	case p.len() == 0:
		return "", false
	case len(p.t1) == p.most || len(p.t1) > p.p || len(p.t2) == 0:
		key = p.t1[0]
	default:
		key = p.t2[0]
	}
	p.forget(key)
	return key, true
}

func (p *plain) resize(most int) []string {
	p.most = max(most, 0)
	p.p = min(p.p, p.most)
	var gone []string
	for p.len() > p.most {
		gone = append(gone, p.evict(false))
	}
	p.trim()
	return gone
}

func (p *plain) trim() {
	for len(p.t1)+len(p.b1) > p.most && len(p.b1) > 0 {
		p.b1 = p.b1[1:]
	}
	for p.all() > 2*p.most && len(p.b2) > 0 {
		p.b2 = p.b2[1:]
	}
}

// backward is a row from its front on.
func backward(row []string) []string {
	row = slices.Clone(row)
	slices.Reverse(row)
	return row
}

// step does one of the changes with both, and tells whether they answer the same.
func step(c *Cache, p *plain, kind uint64, key string, most int) bool {
	switch {
	case kind < 52:
		return c.Request(key) == p.request(key) && (p.most == 0 || c.Has(key))
	case kind < 56:
		return c.Adopt(key) == p.adopt(key)
	case kind < 60:
		return c.Remove(key) == p.remove(key)
	case kind < 62:
		got, ok := c.Drop()
		want, some := p.drop()
		return got == want && ok == some
	case kind < 63:
		return slices.Equal(c.Resize(most), p.resize(most))
	}
	return true
}

// keyOf lets 0 be the empty key.
func keyOf(n uint64) string {
	if n == 0 {
		return ""
	}
	return strconv.FormatUint(n, 10)
}

// P8.1, P8.2, P8.3: a long run of changes, of few keys and of many, with little room and with much, leaves what the plain rows say.
func TestAgainstPlain(t *testing.T) {
	for _, kinds := range []uint64{1, 2, 3, 6, 15, 60} {
		for _, most := range []int{-1, 0, 1, 2, 3, 8, 30} {
			againstPlain(t, kinds, most)
		}
	}
}

func againstPlain(t *testing.T, kinds uint64, most int) {
	t.Helper()
	c, p, x := New(most), newPlain(most), kinds+uint64(most+1)<<8
	for i := range 1500 {
		x = x*6364136223846793005 + 1442695040888963407
		key := keyOf(x >> 40 % kinds)
		other := int(x>>20%64)%(2*max(most, 1)+2) - 1
		name := strconv.FormatUint(kinds, 10) + " keys, most " + strconv.Itoa(most) + ", step " + strconv.Itoa(i)
		if !step(c, p, x>>33%64, key, other) {
			t.Fatalf("%s: the answers of %q differ", name, key)
		}
		if c.Has(key) != p.has(key) {
			t.Fatalf("%s: Has of %q is %v", name, key, c.Has(key))
		}
		checkRows(t, name, c, p.most, p.p, p.t1, p.t2, backward(p.b1), backward(p.b2))
		if t.Failed() {
			return
		}
	}
	for range p.len() + 1 {
		if !step(c, p, 60, "", 0) {
			t.Fatalf("%d keys, most %d: dropped another one", kinds, most)
		}
	}
	checkRows(t, "dropped", c, p.most, p.p, p.t1, p.t2, backward(p.b1), backward(p.b2))
}

// P8.1, P8.2, P8.3: a great cache keeps who was asked for again, and its ghosts come back.
func TestManyKeys(t *testing.T) {
	const many, half = 60000, 30000
	c := New(many)
	for i := range many {
		c.Request(strconv.Itoa(i))
	}
	for i := range half {
		if s := c.Request(strconv.Itoa(i)); s != hit {
			t.Fatalf("Request of %d is %+v", i, s)
		}
	}
	for i := range many {
		victim := strconv.Itoa(half + i)
		if i >= half {
			victim = "new " + strconv.Itoa(i-half)
		}
		if s := c.Request("new " + strconv.Itoa(i)); s != wentFor(victim) {
			t.Fatalf("new %d: %+v", i, s)
		}
	}
	if got, want := c.Sizes(), [4]int{half, half, half, 0}; got != want || c.Share() != 0 {
		t.Fatalf("the sizes are %v, the share is %d", got, c.Share())
	}
	// T1's last ones go for ghosts of B1, till the share, which grows by 1 each time, is more than T1 has; then T2's.
	for i := range half {
		victim := "new " + strconv.Itoa(half+i)
		if i >= half/2 {
			victim = strconv.Itoa(i - half/2)
		}
		if s := c.Request("new " + strconv.Itoa(i)); s != wentFor(victim) {
			t.Fatalf("back, new %d: %+v", i, s)
		}
	}
	if got, want := c.Sizes(), [4]int{half / 2, many - half/2, half / 2, half / 2}; got != want || c.Share() != half {
		t.Fatalf("the sizes are %v, the share is %d", got, c.Share())
	}
	if gone := c.Resize(1); len(gone) != many-1 || c.Len() != 1 || c.Share() != 1 || len(c.Ghosts()) > 1 {
		t.Errorf("%d went, %d are left, the share is %d, %d ghosts", len(gone), c.Len(), c.Share(), len(c.Ghosts()))
	}
}
