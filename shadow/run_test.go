package shadow

import (
	"slices"
	"strconv"
	"testing"

	"cachewise/api"
	"cachewise/draw"
)

// P12.3: what isn't sampled moves no instance, and takes no draw; it is removed as it came, and all goes on as if it hadn't been.
func TestUnsampledMovesNothing(t *testing.T) {
	for _, shift := range []int{1, 2, 5, 16} {
		in, out := sampled(shift, 6), unsampled(shift, 50)
		lanes := chances(11, 100)
		tape, other := draw.New(lanes...), draw.New(lanes...)
		s, alone := made(t, 3<<shift, shift, 1<<20, tape), made(t, 3<<shift, shift, 1<<20, other)
		for i := range 60 {
			key := in[i*i*i%7%6]
			s.Request(key)
			alone.Request(key)
			for _, key := range out {
				s.Request(key)
				s.Remove(key)
			}
			if s.Misses() != alone.Misses() || s.Left() != 1<<20-51*(i+1) {
				t.Fatalf("shift %d, step %d: the misses are %d; want %d; %d are left", shift, i, s.Misses(), alone.Misses(), s.Left())
			}
			for kind := range api.Kinds {
				if !slices.Equal(s.Keys(kind), alone.Keys(kind)) || tape.Left(kind) != other.Left(kind) {
					t.Fatalf("shift %d, step %d, kind %d: %q; want %q; %d and %d draws are left", shift, i, kind, s.Keys(kind), alone.Keys(kind), tape.Left(kind), other.Left(kind))
				}
			}
		}
	}
}

// P12.1, P12.3: keys are sampled by the shadow's shift, by no lesser and by no greater one.
func TestSampledByShift(t *testing.T) {
	for shift := range api.MaxShift + 1 {
		s := made(t, api.MaxCap, shift, 1<<20, draw.New())
		// Of a key that has just so many bits of 0 ahead.
		for bits := max(shift-2, 0); bits <= min(shift+2, 17); bits++ {
			key := ""
			for i := 0; !draw.Sampled(key, bits) || draw.Sampled(key, bits+1); i++ {
				key = strconv.Itoa(i)
			}
			missed := s.Misses()[0]
			s.Request(key)
			if got := s.Misses(); got != all(missed+map[bool]int{true: 1}[bits >= shift]) {
				t.Errorf("shift %d, a key of %d: the misses are %d, behind %d", shift, bits, got, missed)
			}
		}
	}
}

// P12.1, P12.2, P12.3: long runs of requests, removals and resizes leave each instance, its misses and its draws as those of one by itself, that had the sampled requests alone.
func TestAgainstPlain(t *testing.T) {
	n := uint64(1)
	for _, shift := range []int{0, 1, 3} {
		for _, many := range []uint64{1, 3, 8, 30} {
			for _, most := range []int{0, 1, 2, 5, 12} {
				for _, window := range []int{1, 10, 64} {
					n = next(n)
					runAgainstPlain(t, n, shift, window, most, many<<shift)
					if t.Failed() {
						return
					}
				}
			}
		}
	}
}

func runAgainstPlain(t *testing.T, n uint64, shift, window, most int, many uint64) {
	t.Helper()
	lanes, size := chances(n%1000, 200), most<<shift
	tape := draw.New(lanes...)
	s, p := made(t, size, shift, window, tape), plainOf(t, size, shift, window, lanes)
	for i := range 250 {
		n = next(n)
		key, name := "", "shift "+strconv.Itoa(shift)+", window "+strconv.Itoa(window)+", most "+strconv.Itoa(most)+", step "+strconv.Itoa(i)
		if k := n >> 40 % many; k > 0 {
			key = strconv.FormatUint(k, 10)
		}
		switch what := n >> 33 % 64; {
		case what < 56:
			ask(t, s, key, p.request(key))
		case what < 61:
			s.Remove(key)
			p.remove(key)
		default:
			to := int(n>>20%64)%(2*size+4) - 1
			if err := s.Resize(to); (err == nil) != p.resize(to) {
				t.Errorf("%s: Resize to %d: %v", name, to, err)
			}
		}
		checkPlain(t, name, s, tape, p)
		if t.Failed() {
			return
		}
	}
	if tape.Left(api.Kinds) != 200 {
		t.Errorf("%d draws are left behind the kinds' lanes", tape.Left(api.Kinds))
	}
}

// P12.1, P12.3: so it is at the greatest shift, and with many keys.
func TestAgainstPlainAtLast(t *testing.T) {
	for _, x := range []struct{ size, shift, window, keys int }{{5 << 16, 16, 300, 9}, {40 << 8, 8, 128, 90}, {2000, 0, 1000, 4000}} {
		in, out := sampled(x.shift, x.keys), unsampled(max(x.shift, 1), 20)
		lanes := chances(13, 9000)
		tape := draw.New(lanes...)
		s, p := made(t, x.size, x.shift, x.window, tape), plainOf(t, x.size, x.shift, x.window, lanes)
		n := uint64(x.shift)
		for i := range 8000 {
			n = next(n)
			key := in[int(n>>40)%min(i+1, x.keys)]
			if n>>35%4 == 0 {
				key = out[int(n>>40)%20]
			}
			ask(t, s, key, p.request(key))
			if i%250 == 0 {
				checkPlain(t, "shift "+strconv.Itoa(x.shift)+", step "+strconv.Itoa(i), s, tape, p)
			}
			if t.Failed() {
				return
			}
		}
		checkPlain(t, "shift "+strconv.Itoa(x.shift), s, tape, p)
	}
}

// P12.1: each learner draws from the lane of its kind's number, and nobody draws from another one.
func TestLanes(t *testing.T) {
	for _, learner := range []int{api.LeCaR, api.Cacheus} {
		lanes := make([][]uint64, 9)
		for lane := range lanes {
			lanes[lane] = []uint64{low, low, low, low}
		}
		lanes[learner] = []uint64{high, high, high, high}
		tape := draw.New(lanes...)
		s := made(t, 3, 0, 1000, tape)
		request(s, "aabcbd")
		// Of LeCaR's experts LRU lets a go, and LFU c. CACHEUS's both let c go, and part later.
		if got, want := s.Keys(api.LeCaR), map[bool]string{true: "abd", false: "cbd"}[learner == api.LeCaR]; !slices.Equal(got, letters(want)) {
			t.Errorf("learner %d: LeCaR has %q; want %s", learner, got, want)
		}
		request(s, "ef")
		first := made(t, 3, 0, 1000, learning(low, low, low))
		request(first, "aabcbdef")
		for _, kind := range []int{api.LeCaR, api.Cacheus} {
			if same := slices.Equal(s.Keys(kind), first.Keys(kind)); same != (kind != learner) {
				t.Errorf("learner %d: kind %d has %q; as with its first expert alone: %v", learner, kind, s.Keys(kind), same)
			}
		}
		for lane := range 9 {
			want := 4
			if lane == api.LeCaR || lane == api.Cacheus {
				want = 1
			}
			if tape.Left(lane) != want {
				t.Errorf("learner %d: %d draws are left in %d; want %d", learner, tape.Left(lane), lane, want)
			}
		}
	}
}

// P12.1: behind the last draw, and of a lane that isn't there, 0 is drawn: the first expert is followed always.
func TestNoDraws(t *testing.T) {
	s, zeros := made(t, 3, 0, 10, draw.New()), made(t, 3, 0, 10, learning(make([]uint64, 200)...))
	for i := range 200 {
		key := strconv.Itoa(i * i % 7)
		ask(t, s, key, zeros.Request(key))
		checkCounts(t, "request "+strconv.Itoa(i), s, zeros.Misses(), zeros.Scores(), zeros.Left())
	}
}

// P12.3: two shadows side by side, each on a tape of its own, have nothing in common, and do the same at the same calls.
func TestSideBySide(t *testing.T) {
	lanes := chances(17, 400)
	tape, other := draw.New(lanes...), draw.New(lanes...)
	one, two := made(t, 8, 1, 9, tape), made(t, 8, 1, 9, other)
	first, last := plainOf(t, 8, 1, 9, lanes), plainOf(t, 8, 1, 9, lanes)
	for i := range 300 {
		key := strconv.Itoa(i * i % 23)
		ask(t, one, key, first.request(key))
		if i == 100 {
			one.Remove(key)
			first.remove(key)
			resize(t, one, 12)
			first.resize(12)
		}
	}
	checkPlain(t, "the one", one, tape, first)
	checkPlain(t, "the other, not asked yet", two, other, last)
	for i := range 300 {
		key := strconv.Itoa(i * i % 23)
		ask(t, two, key, last.request(key))
		if i == 100 {
			two.Remove(key)
			last.remove(key)
			resize(t, two, 12)
			last.resize(12)
		}
	}
	checkPlain(t, "the one, not asked any more", one, tape, first)
	if one.Misses() != two.Misses() || one.Scores() != two.Scores() || one.Left() != two.Left() {
		t.Errorf("the one: %d, %d, %d; the other: %d, %d, %d", one.Misses(), one.Scores(), one.Left(), two.Misses(), two.Scores(), two.Left())
	}
	for i := range 300 {
		key := strconv.Itoa(i * 7 % 31)
		ask(t, one, key, first.request(key))
		ask(t, two, key+"x", last.request(key+"x"))
		checkPlain(t, "by turns", one, tape, first)
		checkPlain(t, "by turns", two, other, last)
	}
}
