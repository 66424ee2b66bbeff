package shadow

import (
	"math"
	"slices"
	"strconv"
	"strings"
	"testing"

	"cachewise/api"
	"cachewise/draw"
	"cachewise/inst"
)

// Draws by which a learner's first expert is picked, or the second one, whatever its weight.
const (
	low  = 0
	high = 1<<64 - 1
)

// What may be, and what may not.
var (
	sizes     = []int{0, 1, 2, 3, 1000, api.MaxCap - 1, api.MaxCap}
	noSizes   = []int{-1, -2, math.MinInt32, math.MinInt, api.MaxCap + 1, api.MaxCap + 2, 2 * api.MaxCap, 1 << 32, math.MaxInt}
	shifts    = []int{0, 1, 2, 8, 15, 16}
	noShifts  = []int{-1, -2, -64, math.MinInt, 17, 18, 64, 65, 1 << 32, math.MaxInt}
	windows   = []int{1, 2, 3, 1000, 1<<20 - 1, 1 << 20}
	noWindows = []int{0, -1, -2, math.MinInt, 1<<20 + 1, 1 << 21, 1 << 32, math.MaxInt}
)

// numbers are one of each kind.
type numbers = [api.Kinds]int

// all are the same number of each kind.
func all(n int) numbers { return numbers{n, n, n, n, n, n, n} }

// next tells the next one of a row of numbers that looks like chance.
func next(x uint64) uint64 { return x*6364136223846793005 + 1442695040888963407 }

// chance are so many draws, others for another seed.
func chance(seed uint64, many int) []uint64 {
	draws := make([]uint64, many)
	for i := range draws {
		seed = next(seed)
		draws[i] = seed
	}
	return draws
}

// chances are lanes of so many draws, each of its own, for all kinds and for one lane more.
func chances(seed uint64, many int) [][]uint64 {
	lanes := make([][]uint64, api.Kinds+1)
	for i := range lanes {
		lanes[i] = chance(seed*100+uint64(i), many)
	}
	return lanes
}

// letters are a text's letters, each a key.
func letters(keys string) []string { return strings.Split(keys, "") }

// sampled are so many keys that are sampled by a shift, and unsampled so many that aren't.
func sampled(shift, many int) []string { return keysThat(many, shift, true) }

func unsampled(shift, many int) []string { return keysThat(many, shift, false) }

func keysThat(many, shift int, are bool) []string {
	var keys []string
	for i := 0; len(keys) < many; i++ {
		key := "k" + strconv.Itoa(i)
		if draw.Sampled(key, shift) == are {
			keys = append(keys, key)
		}
	}
	return keys
}

// made is a new shadow that draws from a tape.
func made(t *testing.T, size, shift, window int, tape *draw.Tape) *Shadow {
	t.Helper()
	s, err := New(size, shift, window, tape)
	if err != nil || s == nil {
		t.Fatalf("New of size %d, shift %d, window %d: %v, %v", size, shift, window, s, err)
	}
	return s
}

// learning is a tape whose lanes 5 and 6 have these draws, and no other one has any.
func learning(draws ...uint64) *draw.Tape {
	return draw.New(nil, nil, nil, nil, nil, draws, draws)
}

// filled is a shadow of all keys, of windows of 1000, of whom these, a letter each, were asked for.
func filled(t *testing.T, size int, keys string, draws ...uint64) *Shadow {
	t.Helper()
	s := made(t, size, 0, 1000, learning(draws...))
	request(s, keys)
	return s
}

// request asks for keys, a letter each.
func request(s *Shadow, keys string) {
	for _, key := range letters(keys) {
		s.Request(key)
	}
}

// ask holds whether a window ends with a request against whether it should.
func ask(t *testing.T, s *Shadow, key string, want bool) {
	t.Helper()
	if ends := s.Request(key); ends != want {
		t.Errorf("Request of %q: a window ends: %v", key, ends)
	}
}

// resize resizes to what should be a size.
func resize(t *testing.T, s *Shadow, size int) {
	t.Helper()
	if err := s.Resize(size); err != nil {
		t.Errorf("Resize to %d: %v", size, err)
	}
}

// checkCounts holds misses, scores, and how many requests are left, against what they should be.
func checkCounts(t *testing.T, name string, s *Shadow, misses, scores numbers, left int) {
	t.Helper()
	if got := s.Misses(); got != misses {
		t.Errorf("%s: the misses are %d; want %d", name, got, misses)
	}
	if got := s.Scores(); got != scores {
		t.Errorf("%s: the scores are %d; want %d", name, got, scores)
	}
	if got := s.Left(); got != left {
		t.Errorf("%s: %d requests are left; want %d", name, got, left)
	}
}

// checkKeys holds each kind's residents, a letter each, against what they should be.
func checkKeys(t *testing.T, name string, s *Shadow, want [api.Kinds]string) {
	t.Helper()
	for kind, keys := range want {
		if got := s.Keys(kind); !slices.Equal(got, letters(keys)) {
			t.Errorf("%s: kind %d has %q; want %q", name, kind, got, letters(keys))
		}
	}
}

// checkMost holds how many residents there may be against what it should be: told by Most, and by how many come.
func checkMost(t *testing.T, name string, s *Shadow, keys []string, want int) {
	t.Helper()
	if got := s.Most(); got != want {
		t.Errorf("%s: there may be %d residents; want %d", name, got, want)
	}
	for _, key := range keys {
		s.Request(key)
	}
	for kind := range api.Kinds {
		if got := len(s.Keys(kind)); got != min(want, len(keys)) {
			t.Errorf("%s: kind %d has %d residents; want %d", name, kind, got, min(want, len(keys)))
		}
	}
}

// checkFault asks for the whole form of a fault: its Op, no Key, and the number that it wraps.
func checkFault(t *testing.T, name string, err error, op string) {
	t.Helper()
	f, ok := err.(*api.Fault)
	if !ok {
		t.Errorf("%s: error %v is no *api.Fault", name, err)
		return
	}
	if f.Op != op || f.Key != "" || f.Err != error(api.ErrRange) {
		t.Errorf("%s: fault %q %q %v", name, f.Op, f.Key, f.Err)
	}
}

// plain is a shadow told another way: seven instances by themselves, each with a tape of its own, that are asked for the sampled keys alone, and for which each of them counts.
type plain struct {
	shift, window, had int
	insts              [api.Kinds]*inst.Inst
	tapes              [api.Kinds]*draw.Tape
	// The misses of the windows that ended.
	ended  numbers
	scores numbers
}

func plainOf(t *testing.T, size, shift, window int, lanes [][]uint64) *plain {
	t.Helper()
	p := &plain{shift: shift, window: window}
	for kind := range p.insts {
		p.tapes[kind] = draw.New(lanes[kind])
		x, err := inst.New(kind, p.most(size), p.tapes[kind], 0)
		if err != nil {
			t.Fatal(err)
		}
		p.insts[kind] = x
	}
	return p
}

// most halves a size so many times.
func (p *plain) most(size int) int {
	for range p.shift {
		size /= 2
	}
	if size == 0 {
		return 1
	}
	return size
}

// sees tells whether a key is sampled: the first bits of its hash are 0.
func (p *plain) sees(key string) bool {
	return p.shift == 0 || draw.Hash(key)>>(64-p.shift) == 0
}

func (p *plain) request(key string) bool {
	if p.sees(key) {
		for _, x := range p.insts {
			x.Request(key)
		}
	}
	p.had++
	if p.had%p.window != 0 {
		return false
	}
	for kind, missed := range p.misses() {
		p.scores[kind] = p.scores[kind]>>1 + missed
		p.ended[kind] += missed
	}
	return true
}

func (p *plain) remove(key string) {
	for _, x := range p.insts {
		x.Remove(key)
	}
}

func (p *plain) resize(size int) bool {
	if size < 0 || size > api.MaxCap {
		return false
	}
	for _, x := range p.insts {
		x.Resize(p.most(size))
	}
	return true
}

// misses are those that are no hits, but for the windows that ended.
func (p *plain) misses() numbers {
	var missed numbers
	for kind, x := range p.insts {
		requests, hits := x.Count()
		missed[kind] = requests - hits - p.ended[kind]
	}
	return missed
}

// checkPlain holds all that a shadow tells, and how many draws it left, against a plain one.
func checkPlain(t *testing.T, name string, s *Shadow, tape *draw.Tape, p *plain) {
	t.Helper()
	checkCounts(t, name, s, p.misses(), p.scores, p.window-p.had%p.window)
	for kind, x := range p.insts {
		if got, want := s.Keys(kind), x.Keys(); !slices.Equal(got, want) {
			t.Errorf("%s: kind %d has %q; want %q", name, kind, got, want)
		}
		if got, want := tape.Left(kind), p.tapes[kind].Left(0); got != want {
			t.Errorf("%s: kind %d left %d draws; want %d", name, kind, got, want)
		}
	}
	if got, want := s.Most(), p.insts[0].Most(); got != want {
		t.Errorf("%s: there may be %d residents; want %d", name, got, want)
	}
}
