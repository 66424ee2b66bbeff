package policy

import (
	"errors"
	"slices"
	"strconv"
	"strings"
	"testing"

	"cachewise/api"
	"cachewise/arc"
	"cachewise/lfu"
	"cachewise/lru"
	"cachewise/srlru"
)

// inEachKind runs a test with each kind of policy.
func inEachKind(t *testing.T, test func(t *testing.T, kind int)) {
	for _, kind := range []int{api.LRU, api.LFU, api.CRLFU, api.SRLRU, api.ARC} {
		t.Run("kind "+strconv.Itoa(kind), func(t *testing.T) { test(t, kind) })
	}
}

// own is a cache of a kind, as its layer makes it.
func own(kind, most int) cache {
	return map[int]cache{
		0: lru.New(most),
		1: lfu.New(most, false),
		2: lfu.New(most, true),
		3: srlru.New(most),
		4: arc.New(most),
	}[kind]
}

// made is a new policy.
func made(t *testing.T, kind, most int) *Policy {
	t.Helper()
	p, err := New(kind, most)
	if err != nil || p == nil {
		t.Fatalf("New of kind %d, of %d: %v, %v", kind, most, p, err)
	}
	return p
}

// filled is a policy of which these keys, a letter each, were asked for, one behind the other.
func filled(t *testing.T, kind, most int, keys string) *Policy {
	t.Helper()
	p := made(t, kind, most)
	for _, key := range letters(keys) {
		p.Request(key)
	}
	return p
}

// letters are a text's letters, each a key.
func letters(keys string) []string { return strings.Split(keys, "") }

// check holds all that a policy tells without a change against what it should be: residents and ghosts are a letter each.
func check(t *testing.T, name string, p *Policy, kind, most int, residents, ghosts string) {
	t.Helper()
	checkKeys(t, name, p, letters(residents), letters(ghosts))
	checkSize(t, name, p, kind, most)
}

func checkKeys(t *testing.T, name string, p *Policy, residents, ghosts []string) {
	t.Helper()
	if got := p.Keys(); !slices.Equal(got, residents) {
		t.Errorf("%s: the residents are %q; want %q", name, got, residents)
	}
	if got := p.Ghosts(); !slices.Equal(got, ghosts) {
		t.Errorf("%s: the ghosts are %q; want %q", name, got, ghosts)
	}
	if p.Len() != len(residents) {
		t.Errorf("%s: %d residents; want %d", name, p.Len(), len(residents))
	}
	for _, key := range residents {
		if !p.Has(key) {
			t.Errorf("%s: %q isn't resident", name, key)
		}
	}
	for _, key := range ghosts {
		if p.Has(key) {
			t.Errorf("%s: %q, a ghost, is resident", name, key)
		}
	}
}

func checkSize(t *testing.T, name string, p *Policy, kind, most int) {
	t.Helper()
	if p.Kind() != kind || p.Most() != most {
		t.Errorf("%s: kind %d, of %d; want %d, %d", name, p.Kind(), p.Most(), kind, most)
	}
}

// checkFault asks for the whole form of a fault: its Op, no Key, the very number, and no other one.
func checkFault(t *testing.T, name string, err error, op string, want api.Errno) {
	t.Helper()
	f, ok := err.(*api.Fault)
	if !ok {
		t.Errorf("%s: error %v is no *api.Fault", name, err)
		return
	}
	if f.Op != op || f.Key != "" || f.Err != want {
		t.Errorf("%s: fault %q %q %v; want Op %q, no Key, %v", name, f.Op, f.Key, f.Err, op, want)
	}
	for _, n := range []api.Errno{api.ErrRange, api.ErrKind} {
		if errors.Is(err, n) != (n == want) {
			t.Errorf("%s: %v wraps %v: %v", name, err, n, n != want)
		}
	}
}

// ask holds what a request answers against what it should be.
func ask(t *testing.T, p *Policy, key string, want api.Step) {
	t.Helper()
	if got := p.Request(key); got != want {
		t.Errorf("Request of %q is %+v; want %+v", key, got, want)
	}
}

// resize holds who went at a Resize against who should have gone, in order, a letter each.
func resize(t *testing.T, p *Policy, most int, want string) {
	t.Helper()
	got, err := p.Resize(most)
	if !slices.Equal(got, letters(want)) || err != nil {
		t.Errorf("Resize to %d is %q, %v; want %q", most, got, err, want)
	}
}

// drop holds who would go, and who went at a Drop, against who should go.
func drop(t *testing.T, p *Policy, want string) {
	t.Helper()
	if key, ok := p.Victim(); key != want || !ok {
		t.Errorf("Victim is %q, %v; want %q", key, ok, want)
	}
	if key, ok := p.Drop(); key != want || !ok {
		t.Errorf("Drop is %q, %v; want %q", key, ok, want)
	}
	if p.Has(want) {
		t.Errorf("%q is resident behind Drop", want)
	}
}

// dropNone holds that there is nobody who could go.
func dropNone(t *testing.T, p *Policy) {
	t.Helper()
	if key, ok := p.Victim(); key != "" || ok {
		t.Errorf("Victim of none is %q, %v", key, ok)
	}
	if key, ok := p.Drop(); key != "" || ok {
		t.Errorf("Drop of none is %q, %v", key, ok)
	}
}

// adopt holds whether a key is adopted against whether it should be.
func adopt(t *testing.T, p *Policy, key string, want bool) {
	t.Helper()
	if got := p.Adopt(key); got != want {
		t.Errorf("Adopt of %q is %v", key, got)
	}
}

// remove holds whether a key was resident against whether it should have been.
func remove(t *testing.T, p *Policy, key string, want bool) {
	t.Helper()
	if got := p.Remove(key); got != want {
		t.Errorf("Remove of %q is %v", key, got)
	}
	if p.Has(key) || slices.Contains(p.Ghosts(), key) {
		t.Errorf("%q is there behind Remove", key)
	}
}

var (
	hit  = api.Step{Hit: true}
	miss = api.Step{}
)

// wentFor is the step of a miss for which a resident went.
func wentFor(victim string) api.Step { return api.Step{Victim: victim, Out: true} }
