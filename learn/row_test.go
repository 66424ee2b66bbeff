package learn

import (
	"slices"
	"strconv"
	"testing"

	"cachewise/api"
	"cachewise/draw"
	"cachewise/fix"
	"cachewise/policy"
)

// ghost is who went, and when.
type ghost struct {
	key string
	at  int
}

// plain is a learner as plainly as can be: two policies, two rows of ghosts from the last that went on, and the hits of all windows.
type plain struct {
	kind, most, clock int
	a, b              *policy.Policy
	ha, hb            []ghost
	w, rate           api.Fix
	draws             []uint64
	requests, hits    int
	windows           []int
	lastDown          bool
	still             int
}

func newPlain(kind, most int, draws []uint64) *plain {
	p := &plain{kind: kind, most: most, w: api.One / 2, draws: draws}
	p.rate, _ = fix.Whole(45, 100)
	first, second := api.LRU, api.LFU
	if kind == api.Cacheus {
		first, second = api.SRLRU, api.CRLFU
	}
	p.a, _ = policy.New(first, most)
	p.b, _ = policy.New(second, most)
	return p
}

func (p *plain) draw() uint64 {
	if len(p.draws) == 0 {
		return 0
	}
	x := p.draws[0]
	p.draws = p.draws[1:]
	return x
}

func keysOf(row []ghost) []string {
	var keys []string
	for _, g := range row {
		keys = append(keys, g.key)
	}
	return keys
}

func without(row []ghost, key string) []ghost {
	return slices.DeleteFunc(row, func(g ghost) bool { return g.key == key })
}

func (p *plain) forget(key string) { p.ha, p.hb = without(p.ha, key), without(p.hb, key) }

func (p *plain) trim() {
	p.ha, p.hb = p.ha[:min(len(p.ha), p.most)], p.hb[:min(len(p.hb), p.most)]
}

// fallen is by what a weight is multiplied for a ghost.
func (p *plain) fallen(g ghost) api.Fix {
	discount, _ := fix.Whole(p.most, p.most+1)
	power, _ := fix.Pow(discount, p.clock-g.at)
	return fix.Fall(fix.Mul(p.rate, power))
}

func (p *plain) regret(key string) {
	wa, wb := p.w, api.One-p.w
	for _, g := range p.ha {
		if g.key == key {
			wa = fix.Mul(wa, p.fallen(g))
		}
	}
	for _, g := range p.hb {
		if g.key == key {
			wb = fix.Mul(wb, p.fallen(g))
		}
	}
	if wa+wb < api.One {
		least, _ := fix.Whole(1, 100)
		p.w, _ = fix.Share(wa, wb, least)
	}
	p.forget(key)
}

func (p *plain) request(key string) (step api.Step) {
	p.clock++
	if p.most == 0 {
		return step
	}
	if p.a.Has(key) {
		step.Hit = true
		p.a.Request(key)
		p.b.Request(key)
	} else {
		p.regret(key)
		if p.a.Len() == p.most {
			step.Out = true
			if api.Fix(p.draw()/4) < p.w {
				step.Victim, _ = p.a.Victim()
				p.ha = slices.Insert(p.ha, 0, ghost{step.Victim, p.clock})
			} else {
				step.Victim, _ = p.b.Victim()
				p.hb = slices.Insert(p.hb, 0, ghost{step.Victim, p.clock})
			}
			p.a.Remove(step.Victim)
			p.b.Remove(step.Victim)
			p.trim()
		}
		p.a.Adopt(key)
		p.b.Adopt(key)
	}
	if p.kind == api.Cacheus {
		p.window(step.Hit)
	}
	return step
}

// window counts a request, and moves the rate, if a window ends that isn't the first one.
func (p *plain) window(hit bool) {
	p.requests++
	if hit {
		p.hits++
	}
	if p.requests < p.most {
		return
	}
	p.windows = append(p.windows, p.hits)
	p.requests, p.hits = 0, 0
	n := len(p.windows)
	if n == 1 {
		return
	}
	least, _ := fix.Whole(1, 1000)
	now, ahead := p.windows[n-1], p.windows[n-2]
	if now == ahead {
		p.still++
		if p.still%10 == 0 {
			p.rate = max(api.Fix(p.draw()/4), least)
		}
		return
	}
	p.still = 0
	if now < ahead {
		p.lastDown = !p.lastDown
	}
	if p.lastDown {
		p.rate = max(p.rate-p.rate/4, least)
	} else {
		p.rate = min(p.rate+p.rate/4, api.One)
	}
}

func (p *plain) remove(key string) bool {
	p.forget(key)
	p.b.Remove(key)
	return p.a.Remove(key)
}

func (p *plain) adopt(key string) bool {
	if !p.a.Adopt(key) {
		return false
	}
	p.b.Adopt(key)
	p.forget(key)
	return true
}

func (p *plain) victim() (string, bool) {
	if p.w < api.One/2 {
		return p.b.Victim()
	}
	return p.a.Victim()
}

func (p *plain) drop() (string, bool) {
	key, ok := p.victim()
	p.a.Remove(key)
	p.b.Remove(key)
	return key, ok
}

func (p *plain) resize(most int) []string {
	var gone []string
	for p.a.Len() > most {
		key, _ := p.drop()
		gone = append(gone, key)
	}
	p.most = most
	p.a.Resize(most)
	p.b.Resize(most)
	p.trim()
	return gone
}

// sameStep does one of the changes with both, and tells whether they answer the same.
func sameStep(l *Learner, p *plain, what uint64, key string, most int) bool {
	switch {
	case what < 110:
		return l.Request(key) == p.request(key)
	case what < 114:
		return l.Adopt(key) == p.adopt(key)
	case what < 118:
		return l.Remove(key) == p.remove(key)
	case what < 121:
		got, ok := l.Drop()
		want, some := p.drop()
		return got == want && ok == some
	case what < 122:
		gone, err := l.Resize(most)
		if most < 0 {
			return err != nil && len(gone) == 0
		}
		return err == nil && slices.Equal(gone, p.resize(most))
	}
	got, ok := l.Victim()
	want, some := p.victim()
	return got == want && ok == some
}

// keyOf lets 0 be the empty key.
func keyOf(n uint64) string {
	if n == 0 {
		return ""
	}
	return strconv.FormatUint(n, 10)
}

// inRuns does a run of changes in each kind, of few keys and of many, with little room and with much.
func inRuns(t *testing.T, run func(t *testing.T, kind, most int, keys uint64)) {
	inBothKinds(t, func(t *testing.T, kind int) {
		for _, keys := range []uint64{1, 2, 3, 6, 15, 60} {
			for _, most := range []int{0, 1, 2, 3, 8, 30} {
				run(t, kind, most, keys)
				if t.Failed() {
					return
				}
			}
		}
	})
}

// drawn are so many draws that look like chance.
func drawn(x uint64, times int) []uint64 {
	var row []uint64
	for range times {
		x = next(x)
		row = append(row, x)
	}
	return row
}

// P10.1, P10.2, P10.3: a long run of changes leaves what the plain learner has, also where the draws run out.
func TestAgainstPlain(t *testing.T) {
	inRuns(t, func(t *testing.T, kind, most int, keys uint64) {
		draws := drawn(keys, 400)
		l, p, x := made(t, kind, most, draws...), newPlain(kind, most, draws), keys+uint64(most+1)<<8
		for i := range 1500 {
			x = next(x)
			key, other := keyOf(x>>40%keys), int(x>>20%64)%(2*most+3)-1
			name := strconv.FormatUint(keys, 10) + " keys, most " + strconv.Itoa(most) + ", step " + strconv.Itoa(i)
			if !sameStep(l, p, x>>33%128, key, other) {
				t.Fatalf("%s: the answers of %q differ", name, key)
			}
			checkKeys(t, name, l, p.a.Keys(), keysOf(p.ha), keysOf(p.hb))
			checkWeight(t, name, l, p.w)
			checkRate(t, name, l, p.rate)
			checkLeft(t, name, l, len(p.draws))
			if l.Has(key) != p.a.Has(key) || l.clock != p.clock || l.Most() != p.most || t.Failed() {
				t.Fatalf("%s: Has of %q is %v, the clock is at %d, of %d", name, key, l.Has(key), l.clock, l.Most())
			}
		}
	})
}

// P10.3: who is followed hangs on the draw and the weight alone: that one's victim goes, and no other.
func TestFollowed(t *testing.T) {
	followed := [2]int{}
	inRuns(t, func(t *testing.T, kind, most int, keys uint64) {
		draws := drawn(keys+7, 3000)
		l, x := made(t, kind, most, draws...), keys
		for i := range 1500 {
			x = next(x)
			key, at := keyOf(x>>40%keys), 3000-l.tape.Left(0)
			a, _ := l.experts[expertA].Victim()
			b, _ := l.experts[expertB].Victim()
			full := most > 0 && !l.Has(key) && l.Len() == most
			step := l.Request(key)
			want := api.Step{Hit: step.Hit}
			if full {
				// The weight is what the regret left: nothing moves it behind that.
				choice, victim := expertB, b
				if api.Fix(draws[at]>>2) < l.Weight() {
					choice, victim = expertA, a
				}
				want = wentFor(victim)
				followed[choice]++
				if got, _ := l.rows[choice].First(); got != victim {
					t.Fatalf("step %d: %q went, and %q is the first ghost", i, victim, got)
				}
			}
			if step != want {
				t.Fatalf("step %d: Request of %q is %+v; want %+v", i, key, step, want)
			}
		}
	})
	if followed[0] < 1000 || followed[1] < 1000 {
		t.Errorf("followed so often: %d", followed)
	}
}

// P10.1, P10.2: so it is with many keys too, also with the greatest room.
func TestManyKeys(t *testing.T) {
	inBothKinds(t, func(t *testing.T, kind int) {
		const many = 20000
		l := madeOf(t, kind, many, draw.New(drawn(1, 4*many)), 0)
		for i := range 3 * many {
			s := l.Request(strconv.Itoa(i))
			if s.Hit || s.Out != (i >= many) || l.Len() != min(i+1, many) || !l.Has(strconv.Itoa(i)) || s.Out && l.Has(s.Victim) {
				t.Fatalf("key %d: %+v, %d residents", i, s, l.Len())
			}
		}
		ghosts := l.Ghosts()
		for _, key := range ghosts {
			l.Request(key)
		}
		if l.Weight() == half {
			t.Error("nobody was regretted")
		}
		checkBounds(t, "many keys", l)
		gone, err := l.Resize(1)
		if err != nil || len(gone) != many-1 || l.Len() != 1 || len(l.Ghosts()) > 2 {
			t.Errorf("%d went, %d are left, %d ghosts, %v", len(gone), l.Len(), len(l.Ghosts()), err)
		}
		l = made(t, kind, api.MaxCap, high)
		for i := range 5000 {
			ask(t, l, strconv.Itoa(i), miss)
		}
		checkLeft(t, "the greatest room", l, 1)
		resize(t, l, api.MaxCap, "")
		if l.Len() != 5000 || len(l.Ghosts()) != 0 {
			t.Errorf("%d residents, %d ghosts", l.Len(), len(l.Ghosts()))
		}
	})
}
