package inst

import (
	"math"
	"slices"
	"strconv"
	"strings"
	"testing"

	"cachewise/api"
	"cachewise/draw"
	"cachewise/learn"
	"cachewise/policy"
)

// Draws by which a learner's first expert is picked, or the second one, whatever its weight.
const (
	low  = 0
	high = 1<<64 - 1
)

const half = api.One / 2

// sizes are such as may be, and none are such as may not.
var (
	sizes = []int{0, 1, 2, 3, 1000, api.MaxCap - 1, api.MaxCap}
	none  = []int{-1, -2, math.MinInt32, math.MinInt, api.MaxCap + 1, api.MaxCap + 2, 2 * api.MaxCap, math.MaxInt32, math.MaxInt}
)

// kinds are all that there are, with their names.
var kinds = map[int]string{0: "LRU", 1: "LFU", 2: "CR-LFU", 3: "SR-LRU", 4: "ARC", 5: "LeCaR", 6: "CACHEUS"}

// learns tells whether a kind is a learner's.
func learns(kind int) bool { return kind == 5 || kind == 6 }

// inEachKind runs a test with each kind of instance.
func inEachKind(t *testing.T, test func(t *testing.T, kind int)) {
	for kind := range 7 {
		t.Run(kinds[kind], func(t *testing.T) { test(t, kind) })
	}
}

// next tells the next one of a row of numbers that looks like chance.
func next(x uint64) uint64 { return x*6364136223846793005 + 1442695040888963407 }

// chance are so many draws, others for another seed.
func chance(seed uint64, many int) []uint64 {
	draws := make([]uint64, many)
	for i := range draws {
		seed = next(seed)
		draws[i] = seed
	}
	return draws
}

// madeOf is a new instance that draws from a tape's lane.
func madeOf(t *testing.T, kind, most int, tape *draw.Tape, lane int) *Inst {
	t.Helper()
	x, err := New(kind, most, tape, lane)
	if err != nil || x == nil {
		t.Fatalf("New of kind %d, of %d: %v, %v", kind, most, x, err)
	}
	return x
}

// made is a new instance with these draws.
func made(t *testing.T, kind, most int, draws ...uint64) *Inst {
	t.Helper()
	return madeOf(t, kind, most, draw.New(draws), 0)
}

// ownOf is a policy, or a learner, by itself, as its layer makes it.
func ownOf(t *testing.T, kind, most int, tape *draw.Tape, lane int) cache {
	t.Helper()
	if learns(kind) {
		l, err := learn.New(kind, most, tape, lane)
		if err != nil {
			t.Fatal(err)
		}
		return l
	}
	p, err := policy.New(kind, most)
	if err != nil {
		t.Fatal(err)
	}
	return p
}

// own is a policy, or a learner, by itself, with these draws.
func own(t *testing.T, kind, most int, draws ...uint64) cache {
	t.Helper()
	return ownOf(t, kind, most, draw.New(draws), 0)
}

// filled is an instance of which these keys, a letter each, were asked for, one behind the other.
func filled(t *testing.T, kind, most int, keys string, draws ...uint64) *Inst {
	t.Helper()
	x := made(t, kind, most, draws...)
	request(x, keys)
	return x
}

// both are an instance, and a policy or a learner by itself, of which the same keys were asked for with the same draws.
func both(t *testing.T, kind, most int, keys string, draws ...uint64) (*Inst, cache) {
	t.Helper()
	x, c := made(t, kind, most, draws...), own(t, kind, most, draws...)
	request(x, keys)
	request(c, keys)
	return x, c
}

// request asks for keys, a letter each.
func request(c cache, keys string) {
	for _, key := range letters(keys) {
		c.Request(key)
	}
}

// letters are a text's letters, each a key.
func letters(keys string) []string { return strings.Split(keys, "") }

// checkOwn holds all that an instance tells without a change, but its count, against the policy, or the learner, by itself, or another instance.
func checkOwn(t *testing.T, name string, x *Inst, c cache) {
	t.Helper()
	checkKeys(t, name, x, c.Keys(), c.Ghosts())
	checkSize(t, name, x, c.Kind(), c.Most())
	for _, key := range append(letters("abcdefghx"), "") {
		if x.Has(key) != c.Has(key) {
			t.Errorf("%s: Has of %q is %v", name, key, x.Has(key))
		}
	}
	got, ok := x.Victim()
	if want, some := c.Victim(); got != want || ok != some {
		t.Errorf("%s: Victim is %q, %v; want %q, %v", name, got, ok, want, some)
	}
	switch c := c.(type) {
	case *learn.Learner:
		checkWeight(t, name, x, c.Weight())
	case *policy.Policy:
		checkNoWeight(t, name, x)
	case *Inst:
		got, ok := x.Weight()
		if want, some := c.Weight(); got != want || ok != some {
			t.Errorf("%s: the weight is %d, %v; want %d, %v", name, got, ok, want, some)
		}
	}
}

func checkKeys(t *testing.T, name string, x *Inst, residents, ghosts []string) {
	t.Helper()
	if got := x.Keys(); !slices.Equal(got, residents) || x.Len() != len(residents) {
		t.Errorf("%s: the %d residents are %q; want %q", name, x.Len(), got, residents)
	}
	if got := x.Ghosts(); !slices.Equal(got, ghosts) {
		t.Errorf("%s: the ghosts are %q; want %q", name, got, ghosts)
	}
	for _, key := range residents {
		if !x.Has(key) {
			t.Errorf("%s: %q isn't resident", name, key)
		}
	}
	for _, key := range ghosts {
		if x.Has(key) {
			t.Errorf("%s: %q, a ghost, is resident", name, key)
		}
	}
}

// check holds residents and ghosts, a letter each, and the numbers of an instance against what they should be.
func check(t *testing.T, name string, x *Inst, kind, most int, residents, ghosts string) {
	t.Helper()
	checkKeys(t, name, x, letters(residents), letters(ghosts))
	checkSize(t, name, x, kind, most)
}

func checkSize(t *testing.T, name string, x *Inst, kind, most int) {
	t.Helper()
	if x.Kind() != kind || x.Most() != most {
		t.Errorf("%s: kind %d, of %d; want %d, %d", name, x.Kind(), x.Most(), kind, most)
	}
}

func checkCount(t *testing.T, name string, x *Inst, requests, hits int) {
	t.Helper()
	if n, h := x.Count(); n != requests || h != hits {
		t.Errorf("%s: %d requests, %d hits; want %d, %d", name, n, h, requests, hits)
	}
}

func checkWeight(t *testing.T, name string, x *Inst, want api.Fix) {
	t.Helper()
	if w, ok := x.Weight(); w != want || !ok {
		t.Errorf("%s: the weight is %d, %v; want %d", name, w, ok, want)
	}
}

func checkNoWeight(t *testing.T, name string, x *Inst) {
	t.Helper()
	if w, ok := x.Weight(); w != 0 || ok {
		t.Errorf("%s: the weight is %d, %v; want none", name, w, ok)
	}
}

// checkFault asks for the whole form of a fault: its Op, its Key, and the very error that it wraps.
func checkFault(t *testing.T, name string, err error, op, key string, want error) {
	t.Helper()
	f, ok := err.(*api.Fault)
	if !ok {
		t.Errorf("%s: error %v is no *api.Fault", name, err)
		return
	}
	if f.Op != op || f.Key != key || f.Err != want {
		t.Errorf("%s: fault %q %q %v; want %q %q %v", name, f.Op, f.Key, f.Err, op, key, want)
	}
}

// checkWrapped asks for a fault of New: of inst, with a name as its Key, that wraps one of another Op, without a Key, and this a number.
func checkWrapped(t *testing.T, name string, err error, key, op string, want api.Errno) {
	t.Helper()
	f, ok := err.(*api.Fault)
	if !ok {
		t.Errorf("%s: error %v is no *api.Fault", name, err)
		return
	}
	checkFault(t, name, err, "inst", key, f.Err)
	checkFault(t, name+", wrapped", f.Err, op, "", want)
}

// ask holds what a request answers against what it should be.
func ask(t *testing.T, x *Inst, key string, want api.Step) {
	t.Helper()
	if got := x.Request(key); got != want {
		t.Errorf("Request of %q is %+v; want %+v", key, got, want)
	}
}

// resize holds who went at a Resize against who should have gone, in order, a letter each.
func resize(t *testing.T, x *Inst, most int, want string) {
	t.Helper()
	got, err := x.Resize(most)
	if !slices.Equal(got, letters(want)) || err != nil {
		t.Errorf("Resize to %d is %q, %v; want %q", most, got, err, want)
	}
}

// drop holds who would go, and who went at a Drop, against who should go.
func drop(t *testing.T, x *Inst, want string) {
	t.Helper()
	if key, ok := x.Victim(); key != want || !ok {
		t.Errorf("Victim is %q, %v; want %q", key, ok, want)
	}
	if key, ok := x.Drop(); key != want || !ok {
		t.Errorf("Drop is %q, %v; want %q", key, ok, want)
	}
	if x.Has(want) || slices.Contains(x.Ghosts(), want) {
		t.Errorf("%q is there behind Drop", want)
	}
}

// dropNone holds that there is nobody who could go.
func dropNone(t *testing.T, x *Inst) {
	t.Helper()
	if key, ok := x.Victim(); key != "" || ok {
		t.Errorf("Victim of none is %q, %v", key, ok)
	}
	if key, ok := x.Drop(); key != "" || ok {
		t.Errorf("Drop of none is %q, %v", key, ok)
	}
}

// adopt holds whether a key is adopted against whether it should be.
func adopt(t *testing.T, x *Inst, key string, want bool) {
	t.Helper()
	if got := x.Adopt(key); got != want {
		t.Errorf("Adopt of %q is %v", key, got)
	}
}

// remove holds whether a key was resident against whether it should have been.
func remove(t *testing.T, x *Inst, key string, want bool) {
	t.Helper()
	if got := x.Remove(key); got != want {
		t.Errorf("Remove of %q is %v", key, got)
	}
	if x.Has(key) || slices.Contains(x.Ghosts(), key) {
		t.Errorf("%q is there behind Remove", key)
	}
}

// named is a kind and a size, in words.
func named(kind, most int) string {
	return "kind " + strconv.Itoa(kind) + ", of " + strconv.Itoa(most)
}

var (
	hit  = api.Step{Hit: true}
	miss = api.Step{}
)

// wentFor is the step of a miss for which a resident went.
func wentFor(victim string) api.Step { return api.Step{Victim: victim, Out: true} }
