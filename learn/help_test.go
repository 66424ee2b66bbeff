package learn

import (
	"errors"
	"math"
	"slices"
	"strconv"
	"strings"
	"testing"

	"cachewise/api"
	"cachewise/draw"
)

// Draws by which A is picked, or B, whatever A's weight.
const (
	low  = 0
	high = 1<<64 - 1
)

// Numbers that the document sets, each cut down.
const (
	half      = api.One / 2
	startRate = api.Fix(2075258708292324556) // 45 / 100
	slowest   = api.Fix(4611686018427387)    // 1 / 1000
	lightest  = api.Fix(46116860184273879)   // 1 / 100
	heaviest  = api.One - lightest
)

// sizes are such as may be, and none are such as may not.
var (
	sizes = []int{0, 1, 2, 3, 1000, api.MaxCap - 1, api.MaxCap}
	none  = []int{-1, -2, math.MinInt32, math.MinInt, api.MaxCap + 1, api.MaxCap + 2, 2 * api.MaxCap, math.MaxInt32, math.MaxInt}
)

// state is what a learner should have, a letter each key: its residents as A, and as B, would let them go, and its ghosts from the last that went on.
type state struct{ a, b, ha, hb string }

// inBothKinds runs a test with each kind of learner.
func inBothKinds(t *testing.T, test func(t *testing.T, kind int)) {
	for _, kind := range []int{api.LeCaR, api.Cacheus} {
		t.Run("kind "+strconv.Itoa(kind), func(t *testing.T) { test(t, kind) })
	}
}

// madeOf is a new learner that draws from a tape's lane.
func madeOf(t *testing.T, kind, most int, tape *draw.Tape, lane int) *Learner {
	t.Helper()
	l, err := New(kind, most, tape, lane)
	if err != nil || l == nil {
		t.Fatalf("New of kind %d, of %d: %v, %v", kind, most, l, err)
	}
	return l
}

// made is a new learner with these draws.
func made(t *testing.T, kind, most int, draws ...uint64) *Learner {
	t.Helper()
	return madeOf(t, kind, most, draw.New(draws), 0)
}

// filled is a learner of 3, or another size, of which these keys, a letter each, were asked for, one behind the other.
func filled(t *testing.T, kind, most int, keys string, draws ...uint64) *Learner {
	t.Helper()
	l := made(t, kind, most, draws...)
	request(l, keys)
	return l
}

// request asks for keys, a letter each.
func request(l *Learner, keys string) {
	for _, key := range letters(keys) {
		l.Request(key)
	}
}

// letters are a text's letters, each a key.
func letters(keys string) []string { return strings.Split(keys, "") }

// check holds all that a learner has, but its numbers, against what it should have.
func check(t *testing.T, name string, l *Learner, s state) {
	t.Helper()
	checkKeys(t, name, l, letters(s.a), letters(s.ha), letters(s.hb))
	if got := l.experts[expertB].Keys(); !slices.Equal(got, letters(s.b)) {
		t.Errorf("%s: B has %q; want %q", name, got, s.b)
	}
}

func checkKeys(t *testing.T, name string, l *Learner, residents, ha, hb []string) {
	t.Helper()
	if got := l.Keys(); !slices.Equal(got, residents) || l.Len() != len(residents) {
		t.Errorf("%s: the %d residents are %q; want %q", name, l.Len(), got, residents)
	}
	if got := l.Ghosts(); !slices.Equal(got, slices.Concat(ha, hb)) {
		t.Errorf("%s: the ghosts are %q; want %q and %q", name, got, ha, hb)
	}
	if got := l.rows[expertA].Keys(); !slices.Equal(got, ha) {
		t.Errorf("%s: HA is %q; want %q", name, got, ha)
	}
	checkBounds(t, name, l)
}

// checkBounds holds what is so of every learner: P10.3, and that it keeps no more than it needs.
func checkBounds(t *testing.T, name string, l *Learner) {
	t.Helper()
	residents, ghosts := l.Keys(), l.Ghosts()
	if len(residents) > l.Most() || l.rows[expertA].Len() > l.Most() || l.rows[expertB].Len() > l.Most() || len(l.went) != len(ghosts) {
		t.Errorf("%s: of %d: the residents are %q, the ghosts %q, of whom %d went", name, l.Most(), residents, ghosts, len(l.went))
	}
	for _, key := range residents {
		if !l.Has(key) {
			t.Errorf("%s: %q isn't resident", name, key)
		}
	}
	seen := map[string]int{}
	for _, key := range ghosts {
		seen[key]++
		if l.Has(key) || seen[key] > 1 {
			t.Errorf("%s: %q, a ghost, is resident, or twice a ghost", name, key)
		}
	}
	others := l.experts[expertB].Keys()
	slices.Sort(residents)
	slices.Sort(others)
	if !slices.Equal(residents, others) || len(l.experts[expertA].Ghosts()) != 0 {
		t.Errorf("%s: A has %q, with ghosts %q, and B %q", name, residents, l.experts[expertA].Ghosts(), others)
	}
	if l.Weight() < lightest || l.Weight() > heaviest || l.Rate() < slowest || l.Rate() > api.One {
		t.Errorf("%s: the weight is %d, the rate %d", name, l.Weight(), l.Rate())
	}
}

func checkSize(t *testing.T, name string, l *Learner, kind, most int) {
	t.Helper()
	if l.Kind() != kind || l.Most() != most {
		t.Errorf("%s: kind %d, of %d; want %d, %d", name, l.Kind(), l.Most(), kind, most)
	}
}

func checkWeight(t *testing.T, name string, l *Learner, want api.Fix) {
	t.Helper()
	if l.Weight() != want {
		t.Errorf("%s: the weight is %d; want %d", name, l.Weight(), want)
	}
}

func checkRate(t *testing.T, name string, l *Learner, want api.Fix) {
	t.Helper()
	if l.Rate() != want {
		t.Errorf("%s: the rate is %d; want %d", name, l.Rate(), want)
	}
}

// checkLeft holds how many draws are left in the lane 0.
func checkLeft(t *testing.T, name string, l *Learner, want int) {
	t.Helper()
	if got := l.tape.Left(0); got != want {
		t.Errorf("%s: %d draws are left; want %d", name, got, want)
	}
}

// checkFault asks for the whole form of a fault: its Op, no Key, the very number, and no other one.
func checkFault(t *testing.T, name string, err error, op string, want api.Errno) {
	t.Helper()
	f, ok := err.(*api.Fault)
	if !ok {
		t.Errorf("%s: error %v is no *api.Fault", name, err)
		return
	}
	if f.Op != op || f.Key != "" || f.Err != want {
		t.Errorf("%s: fault %q %q %v; want Op %q, no Key, %v", name, f.Op, f.Key, f.Err, op, want)
	}
	for _, n := range []api.Errno{api.ErrRange, api.ErrKind} {
		if errors.Is(err, n) != (n == want) {
			t.Errorf("%s: %v wraps %v: %v", name, err, n, n != want)
		}
	}
}

// ask holds what a request answers against what it should be.
func ask(t *testing.T, l *Learner, key string, want api.Step) {
	t.Helper()
	if got := l.Request(key); got != want {
		t.Errorf("Request of %q is %+v; want %+v", key, got, want)
	}
}

// remove holds whether a key was resident against whether it should have been.
func remove(t *testing.T, l *Learner, key string, want bool) {
	t.Helper()
	if got := l.Remove(key); got != want {
		t.Errorf("Remove of %q is %v", key, got)
	}
	if l.Has(key) || slices.Contains(l.Ghosts(), key) || l.Remove(key) {
		t.Errorf("%q is there behind Remove", key)
	}
}

// adopt holds whether a key is adopted against whether it should be.
func adopt(t *testing.T, l *Learner, key string, want bool) {
	t.Helper()
	if got := l.Adopt(key); got != want {
		t.Errorf("Adopt of %q is %v", key, got)
	}
}

// drop holds who would go, and who went at a Drop, against who should go.
func drop(t *testing.T, l *Learner, want string) {
	t.Helper()
	if key, ok := l.Victim(); key != want || !ok {
		t.Errorf("Victim is %q, %v; want %q", key, ok, want)
	}
	if key, ok := l.Drop(); key != want || !ok {
		t.Errorf("Drop is %q, %v; want %q", key, ok, want)
	}
	if l.Has(want) || slices.Contains(l.Ghosts(), want) {
		t.Errorf("%q is there behind Drop", want)
	}
}

// dropNone holds that there is nobody who could go.
func dropNone(t *testing.T, l *Learner) {
	t.Helper()
	if key, ok := l.Victim(); key != "" || ok {
		t.Errorf("Victim of none is %q, %v", key, ok)
	}
	if key, ok := l.Drop(); key != "" || ok {
		t.Errorf("Drop of none is %q, %v", key, ok)
	}
}

// resize holds who went at a Resize against who should have gone, in order, a letter each.
func resize(t *testing.T, l *Learner, most int, want string) {
	t.Helper()
	got, err := l.Resize(most)
	if !slices.Equal(got, letters(want)) || err != nil {
		t.Errorf("Resize to %d is %q, %v; want %q", most, got, err, want)
	}
}

var (
	hit  = api.Step{Hit: true}
	miss = api.Step{}
)

// wentFor is the step of a miss for which a resident went.
func wentFor(victim string) api.Step { return api.Step{Victim: victim, Out: true} }
