package policy

import (
	"slices"
	"strconv"
	"testing"
)

// draw tells the next one of a row of numbers that looks like chance.
func draw(x uint64) uint64 { return x*6364136223846793005 + 1442695040888963407 }

// keyOf lets 0 be the empty key.
func keyOf(n uint64) string {
	if n == 0 {
		return ""
	}
	return strconv.FormatUint(n, 10)
}

// inRuns does a run of changes in each kind, of few keys and of many, with little room and with much.
func inRuns(t *testing.T, change func(t *testing.T, kind, most int, keys uint64)) {
	inEachKind(t, func(t *testing.T, kind int) {
		for _, keys := range []uint64{1, 2, 3, 6, 15, 60} {
			for _, most := range []int{0, 1, 2, 3, 8, 30} {
				change(t, kind, most, keys)
				if t.Failed() {
					return
				}
			}
		}
	})
}

// sameStep does one of the changes with both, and tells whether they answer the same.
func sameStep(p *Policy, c cache, what uint64, key string, most int) bool {
	switch {
	case what < 52:
		return p.Request(key) == c.Request(key)
	case what < 56:
		return p.Adopt(key) == c.Adopt(key)
	case what < 60:
		return p.Remove(key) == c.Remove(key)
	case what < 62:
		got, ok := p.Drop()
		want, some := c.Drop()
		return got == want && ok == some
	}
	gone, err := p.Resize(most)
	if most < 0 {
		return err != nil && len(gone) == 0
	}
	return err == nil && slices.Equal(gone, c.Resize(most))
}

// P9.2: a long run of changes leaves what the kind's own cache has.
func TestAgainstOwn(t *testing.T) {
	inRuns(t, func(t *testing.T, kind, most int, keys uint64) {
		p, c, x := made(t, kind, most), own(kind, most), keys+uint64(most+1)<<8
		for i := range 700 {
			x = draw(x)
			key, other := keyOf(x>>40%keys), int(x>>20%64)%(2*most+3)-1
			name := strconv.FormatUint(keys, 10) + " keys, most " + strconv.Itoa(most) + ", step " + strconv.Itoa(i)
			if !sameStep(p, c, x>>33%64, key, other) {
				t.Fatalf("%s: the answers of %q differ", name, key)
			}
			checkOwn(t, name, p, c)
			if p.Has(key) != c.Has(key) || t.Failed() {
				t.Fatalf("%s: Has of %q is %v", name, key, p.Has(key))
			}
		}
	})
}

// checkStep holds a request against P9.4.
func checkStep(t *testing.T, name string, p *Policy, key string) {
	t.Helper()
	was, before := p.Has(key), p.Len()
	s := p.Request(key)
	if s.Hit != was || p.Has(key) != (p.Most() > 0) {
		t.Fatalf("%s: Request of %q is %+v: it was resident: %v, it is: %v", name, key, s, was, p.Has(key))
	}
	full := p.Most() > 0 && before == p.Most()
	if s.Out != (full && !was) || s.Out && (s.Victim == key || p.Has(s.Victim)) || !s.Out && s.Victim != "" {
		t.Fatalf("%s: Request of %q is %+v: there were %d of %d", name, key, s, before, p.Most())
	}
}

// checkGone holds that who went isn't resident, and that the others fit.
func checkGone(t *testing.T, name string, p *Policy, before []string, gone []string) {
	t.Helper()
	for _, key := range gone {
		if p.Has(key) || !slices.Contains(before, key) {
			t.Fatalf("%s: %q went; it is resident: %v", name, key, p.Has(key))
		}
	}
	if p.Len() != len(before)-len(gone) || len(gone) > 0 && p.Len() != p.Most() {
		t.Fatalf("%s: %q went of %q; %d are left, of %d", name, gone, before, p.Len(), p.Most())
	}
}

// P9.4: whatever the kind, what was just asked for is resident, where there is room; who goes isn't; no more are resident than most.
func TestWhateverTheKind(t *testing.T) {
	inRuns(t, func(t *testing.T, kind, most int, keys uint64) {
		p, x := made(t, kind, most), keys+uint64(most+1)<<8
		for i := range 1500 {
			x = draw(x)
			key, before := keyOf(x>>40%keys), p.Keys()
			name := strconv.FormatUint(keys, 10) + " keys, most " + strconv.Itoa(most) + ", step " + strconv.Itoa(i)
			switch what := x >> 33 % 64; {
			case what < 56:
				checkStep(t, name, p, key)
			case what < 58:
				p.Adopt(key)
			case what < 60:
				p.Remove(key)
			case what < 62:
				victim, some := p.Victim()
				if gone, ok := p.Drop(); gone != victim || ok != some || p.Has(gone) {
					t.Fatalf("%s: Drop is %q, %v; Victim was %q", name, gone, ok, victim)
				}
			default:
				gone, _ := p.Resize(int(x>>20%64) % (2*most + 2))
				checkGone(t, name, p, before, gone)
			}
			if residents := p.Keys(); p.Len() > p.Most() || len(residents) != p.Len() {
				t.Fatalf("%s: %d residents of %d: %q", name, p.Len(), p.Most(), residents)
			}
		}
	})
}

// P9.4: so it is with many keys too.
func TestManyKeys(t *testing.T) {
	inEachKind(t, func(t *testing.T, kind int) {
		const many = 20000
		p := made(t, kind, many)
		for i := range 3 * many {
			s := p.Request(strconv.Itoa(i))
			if s.Hit || s.Out != (i >= many) || p.Len() != min(i+1, many) || !p.Has(strconv.Itoa(i)) || s.Out && p.Has(s.Victim) {
				t.Fatalf("key %d: %+v, %d residents", i, s, p.Len())
			}
		}
		gone, err := p.Resize(1)
		if err != nil || len(gone) != many-1 || p.Len() != 1 || p.Most() != 1 || p.Kind() != kind {
			t.Errorf("%d went, %d are left, %v", len(gone), p.Len(), err)
		}
		for _, key := range gone {
			if p.Has(key) {
				t.Fatalf("%s went, and is resident", key)
			}
		}
	})
}
