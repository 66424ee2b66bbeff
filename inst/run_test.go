package inst

import (
	"slices"
	"strconv"
	"testing"

	"cachewise/draw"
)

// keyOf lets 0 be the empty key.
func keyOf(n uint64) string {
	if n == 0 {
		return ""
	}
	return strconv.FormatUint(n, 10)
}

// sameStep does one of the changes with both, and tells whether they answer the same.
func sameStep(x *Inst, c cache, what uint64, key string, most int) bool {
	switch {
	case what < 52:
		return x.Request(key) == c.Request(key)
	case what < 56:
		return x.Adopt(key) == c.Adopt(key)
	case what < 60:
		return x.Remove(key) == c.Remove(key)
	case what < 62:
		got, ok := x.Drop()
		want, some := c.Drop()
		return got == want && ok == some
	}
	gone, err := x.Resize(most)
	want, fault := c.Resize(most)
	return slices.Equal(gone, want) && (err == nil) == (fault == nil)
}

// inRuns does a run of changes in each kind, of few keys and of many, with little room and with much.
func inRuns(t *testing.T, change func(t *testing.T, kind, most int, keys uint64)) {
	inEachKind(t, func(t *testing.T, kind int) {
		for _, keys := range []uint64{1, 2, 3, 6, 15, 60} {
			for _, most := range []int{0, 1, 2, 3, 8, 30} {
				change(t, kind, most, keys)
				if t.Failed() {
					return
				}
			}
		}
	})
}

// P11.1: a long run of changes leaves what the policy by itself has, or the learner, and takes as many draws.
func TestAgainstOwn(t *testing.T) {
	inRuns(t, func(t *testing.T, kind, most int, keys uint64) {
		n := keys + uint64(most+1)<<8
		tape, other := draw.New(chance(n, 500)), draw.New(chance(n, 500))
		x, c := madeOf(t, kind, most, tape, 0), ownOf(t, kind, most, other, 0)
		for i := range 600 {
			n = next(n)
			key, size := keyOf(n>>40%keys), int(n>>20%64)%(2*most+3)-1
			name := strconv.FormatUint(keys, 10) + " keys, most " + strconv.Itoa(most) + ", step " + strconv.Itoa(i)
			if !sameStep(x, c, n>>33%64, key, size) {
				t.Fatalf("%s: the answers of %q differ", name, key)
			}
			checkOwn(t, name, x, c)
			if x.Has(key) != c.Has(key) || tape.Left(0) != other.Left(0) || t.Failed() {
				t.Fatalf("%s: Has of %q is %v; %d and %d draws are left", name, key, x.Has(key), tape.Left(0), other.Left(0))
			}
		}
	})
}

// P11.2: whatever the kind, what was just asked for is resident, where there is room; hits and misses are counted just once each.
func TestWhateverTheKind(t *testing.T) {
	inRuns(t, func(t *testing.T, kind, most int, keys uint64) {
		n, requests, hits := keys+uint64(most+1)<<8, 0, 0
		x := made(t, kind, most, chance(n, 500)...)
		for i := range 1200 {
			n = next(n)
			key, was := keyOf(n>>40%keys), 0
			if x.Has(key) {
				was = 1
			}
			if what := n >> 33 % 64; what >= 52 {
				sameStep(x, own(t, kind, 0), what, key, int(n>>20%64)%(2*most+2))
			} else {
				s := x.Request(key)
				requests, hits = requests+1, hits+was
				if s.Hit != (was == 1) || x.Has(key) != (x.Most() > 0) || s.Out && (s.Hit || x.Has(s.Victim)) {
					t.Fatalf("step %d: Request of %q is %+v: it was resident: %v, it is: %v", i, key, s, was, x.Has(key))
				}
			}
			if got, of := x.Count(); got != requests || of != hits || x.Len() > x.Most() {
				t.Fatalf("step %d: %d requests, %d hits; want %d, %d; %d residents of %d", i, got, of, requests, hits, x.Len(), x.Most())
			}
		}
	})
}

// P11.2: so it is with many keys too.
func TestManyKeys(t *testing.T) {
	inEachKind(t, func(t *testing.T, kind int) {
		const many = 20000
		x := made(t, kind, many, chance(3, 3*many)...)
		for i := range 3 * many {
			s := x.Request(strconv.Itoa(i))
			if s.Hit || s.Out != (i >= many) || x.Len() != min(i+1, many) || !x.Has(strconv.Itoa(i)) || s.Out && x.Has(s.Victim) {
				t.Fatalf("key %d: %+v, %d residents", i, s, x.Len())
			}
		}
		checkCount(t, "all came", x, 3*many, 0)
		for _, key := range x.Keys() {
			if s := x.Request(key); s != hit {
				t.Fatalf("resident %s: %+v", key, s)
			}
		}
		checkCount(t, "the residents came", x, 4*many, many)
		gone, err := x.Resize(1)
		if err != nil || len(gone) != many-1 || x.Len() != 1 {
			t.Errorf("%d went, %d are left, %v", len(gone), x.Len(), err)
		}
	})
}
