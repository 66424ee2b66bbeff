package policy

import (
	"math"
	"strconv"
	"testing"

	"cachewise/api"
)

// sizes are such as may be, and none are such as may not.
var (
	sizes = []int{0, 1, 2, 3, 1000, api.MaxCap - 1, api.MaxCap}
	none  = []int{-1, -2, math.MinInt32, math.MinInt, api.MaxCap + 1, api.MaxCap + 2, 2 * api.MaxCap, math.MaxInt32, math.MaxInt}
)

// P9.1: the chapter's example.
func TestExample(t *testing.T) {
	p, err := New(5, 1)
	if p != nil {
		t.Errorf("New(5, 1) is %v", p)
	}
	checkFault(t, "New(5, 1)", err, "policy", api.ErrKind)
}

// P9.1: a new policy is of its kind and size, without residents or ghosts.
func TestNew(t *testing.T) {
	inEachKind(t, func(t *testing.T, kind int) {
		for _, most := range sizes {
			p := made(t, kind, most)
			check(t, "new", p, kind, most, "", "")
			dropNone(t, p)
			if p.Has("a") || p.Has("") || p.Remove("a") || p.Remove("") {
				t.Errorf("of %d: there is somebody", most)
			}
			check(t, "asked", p, kind, most, "", "")
		}
	})
}

// P9.1: of no kind there is no policy, whatever the size: that the size is none too isn't told.
func TestNewOfNoKind(t *testing.T) {
	for _, kind := range []int{-1, -2, -5, math.MinInt, 5, 6, 7, 8, 100, 256, 1 << 32, math.MaxInt} {
		for _, list := range [][]int{sizes, none} {
			for _, most := range list {
				p, err := New(kind, most)
				name := "kind " + strconv.Itoa(kind) + ", of " + strconv.Itoa(most)
				if p != nil {
					t.Errorf("%s: %v", name, p)
				}
				checkFault(t, name, err, "policy", api.ErrKind)
			}
		}
	}
}

// P9.1: of no size there is no policy.
func TestNewOfNoSize(t *testing.T) {
	inEachKind(t, func(t *testing.T, kind int) {
		for _, most := range none {
			p, err := New(kind, most)
			if p != nil {
				t.Errorf("of %d: %v", most, p)
			}
			checkFault(t, "of "+strconv.Itoa(most), err, "policy", api.ErrRange)
		}
	})
}

// P9.1: the kind stays, and the size is that of the last Resize, whoever came or went.
func TestKindAndMost(t *testing.T) {
	inEachKind(t, func(t *testing.T, kind int) {
		p := filled(t, kind, 3, "aabcbdcae")
		checkSize(t, "filled", p, kind, 3)
		p.Drop()
		p.Remove("a")
		p.Adopt("x")
		checkSize(t, "changed", p, kind, 3)
		for _, most := range append([]int{3, 4, 2, 0}, sizes...) {
			if _, err := p.Resize(most); err != nil {
				t.Errorf("Resize to %d: %v", most, err)
			}
			checkSize(t, "resized", p, kind, most)
			p.Request("a")
			p.Request("b")
			checkSize(t, "asked behind it", p, kind, most)
		}
	})
}

// P9.3: each kind has its name, also those that aren't policies.
func TestName(t *testing.T) {
	for range 2 {
		for kind, want := range map[int]string{
			api.LRU: "LRU", api.LFU: "LFU", api.CRLFU: "CR-LFU", api.SRLRU: "SR-LRU", api.ARC: "ARC", api.LeCaR: "LeCaR", api.Cacheus: "CACHEUS",
		} {
			if name, err := Name(kind); name != want || err != nil {
				t.Errorf("Name of %d is %q, %v; want %q", kind, name, err, want)
			}
		}
	}
	for kind, want := range []string{"LRU", "LFU", "CR-LFU", "SR-LRU", "ARC", "LeCaR", "CACHEUS"} {
		if name, err := Name(kind); name != want || err != nil {
			t.Errorf("Name of the number %d is %q, %v; want %q", kind, name, err, want)
		}
	}
}

// P9.3: no other number has a name.
func TestNameOfNoKind(t *testing.T) {
	for _, kind := range []int{-1, -2, -7, math.MinInt, 7, 8, 14, 256, 1 << 32, math.MaxInt} {
		name, err := Name(kind)
		if name != "" {
			t.Errorf("Name of %d is %q", kind, name)
		}
		checkFault(t, "Name of "+strconv.Itoa(kind), err, "name", api.ErrKind)
	}
}

// P9.1, P9.2, P9.3: a fault tells all in words, and is nobody else's: one that was changed doesn't come again.
func TestFaultsAreNew(t *testing.T) {
	p := made(t, api.LRU, 1)
	for range 3 {
		_, kind := New(5, 1)
		_, size := New(0, -1)
		_, name := Name(7)
		_, resized := p.Resize(-1)
		for i, x := range []struct {
			err  error
			want string
		}{{kind, `policy "": cachewise: 7`}, {size, `policy "": cachewise: 1`}, {name, `name "": cachewise: 7`}, {resized, `resize "": cachewise: 1`}} {
			if x.err.Error() != x.want {
				t.Errorf("%d: %v; want %s", i, x.err, x.want)
			}
			*x.err.(*api.Fault) = api.Fault{Op: "other", Key: "x", Err: api.ErrForm}
		}
	}
}
