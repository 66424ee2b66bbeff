package inst

import (
	"errors"
	"math"
	"strconv"
	"testing"

	"cachewise/api"
	"cachewise/draw"
)

// P11.1: the chapter's example.
func TestExample(t *testing.T) {
	x, err := New(5, -1, draw.New(), 0)
	if x != nil {
		t.Errorf("New(5, -1) is %v", x)
	}
	checkWrapped(t, "New(5, -1)", err, "LeCaR", "learn", api.ErrRange)
}

// P11.1: a new instance is of its kind and size, without residents, ghosts or requests.
func TestNew(t *testing.T) {
	inEachKind(t, func(t *testing.T, kind int) {
		for _, most := range sizes {
			tape := draw.New([]uint64{1, 2, 3})
			x, name := madeOf(t, kind, most, tape, 0), named(kind, most)
			checkOwn(t, name, x, own(t, kind, most))
			check(t, name, x, kind, most, "", "")
			dropNone(t, x)
			remove(t, x, "a", false)
			remove(t, x, "", false)
			check(t, name+", asked", x, kind, most, "", "")
			checkCount(t, name, x, 0, 0)
			if tape.Left(0) != 3 {
				t.Errorf("%s: %d draws are left", name, tape.Left(0))
			}
		}
	})
}

// P11.1: of no kind there is no instance, whatever the size: it is layer 9's fault, that tells of the kind alone, and there is no name.
func TestNewOfNoKind(t *testing.T) {
	for _, kind := range []int{-1, -2, -5, -6, -7, math.MinInt32, math.MinInt, 7, 8, 12, 14, 256, 256 + 5, 1 << 32, 1<<32 + 6, math.MaxInt} {
		for _, list := range [][]int{sizes, none} {
			for _, most := range list {
				tape := draw.New([]uint64{5})
				x, err := New(kind, most, tape, 0)
				if x != nil || tape.Left(0) != 1 {
					t.Errorf("%s: %v, %d draws are left", named(kind, most), x, tape.Left(0))
				}
				checkWrapped(t, named(kind, most), err, "", "policy", api.ErrKind)
				if !errors.Is(err, api.ErrKind) || errors.Is(err, api.ErrRange) {
					t.Errorf("%s: %v", named(kind, most), err)
				}
			}
		}
	}
}

// P11.1: of no size there is no instance: it is layer 9's fault, or layer 10's, as the kind is, whose name is told.
func TestNewOfNoSize(t *testing.T) {
	inEachKind(t, func(t *testing.T, kind int) {
		op := map[bool]string{false: "policy", true: "learn"}[learns(kind)]
		for _, most := range none {
			tape := draw.New([]uint64{5})
			x, err := New(kind, most, tape, 0)
			if x != nil || tape.Left(0) != 1 {
				t.Errorf("%s: %v, %d draws are left", named(kind, most), x, tape.Left(0))
			}
			checkWrapped(t, named(kind, most), err, kinds[kind], op, api.ErrRange)
			if !errors.Is(err, api.ErrRange) || errors.Is(err, api.ErrKind) {
				t.Errorf("%s: %v", named(kind, most), err)
			}
		}
	})
}

// P11.1: a fault tells all in words, and is nobody else's: one that was changed doesn't come again, neither does the one that it wraps.
func TestFaultsAreNew(t *testing.T) {
	for range 3 {
		for i, x := range []struct {
			kind, most int
			want       string
		}{
			{-1, 1, `inst "": policy "": cachewise: 7`},
			{7, -1, `inst "": policy "": cachewise: 7`},
			{0, -1, `inst "LRU": policy "": cachewise: 1`},
			{2, -1, `inst "CR-LFU": policy "": cachewise: 1`},
			{4, api.MaxCap + 1, `inst "ARC": policy "": cachewise: 1`},
			{5, -1, `inst "LeCaR": learn "": cachewise: 1`},
			{6, api.MaxCap + 1, `inst "CACHEUS": learn "": cachewise: 1`},
		} {
			_, err := New(x.kind, x.most, draw.New(), 0)
			if err == nil || err.Error() != x.want {
				t.Fatalf("%d: %v; want %s", i, err, x.want)
			}
			f := err.(*api.Fault)
			*f.Err.(*api.Fault) = api.Fault{Op: "another", Key: "y", Err: api.ErrKey}
			*f = api.Fault{Op: "other", Key: "x", Err: api.ErrForm}
		}
		_, err := made(t, api.LRU, 1).Resize(-1)
		if err == nil || err.Error() != `resize "": cachewise: 1` {
			t.Fatal(err)
		}
		*err.(*api.Fault) = api.Fault{Op: "other", Key: "x", Err: api.ErrForm}
	}
}

// P11.1: the kind stays, and the size is that of the last Resize, whoever came or went.
func TestKindAndMost(t *testing.T) {
	inEachKind(t, func(t *testing.T, kind int) {
		x := filled(t, kind, 3, "aabcbdcae")
		checkSize(t, "filled", x, kind, 3)
		x.Drop()
		x.Remove("a")
		x.Adopt("x")
		checkSize(t, "changed", x, kind, 3)
		for _, most := range append([]int{3, 4, 2, 0}, sizes...) {
			if _, err := x.Resize(most); err != nil {
				t.Errorf("Resize to %d: %v", most, err)
			}
			checkSize(t, "resized", x, kind, most)
			request(x, "ab")
			checkSize(t, "asked behind it", x, kind, most)
			for _, other := range none {
				x.Resize(other)
			}
			checkSize(t, "resized to none", x, kind, most)
		}
	})
}

// P11.1, P11.2: each request counts once, and each hit, whether or not somebody went, or came back.
func TestCount(t *testing.T) {
	inEachKind(t, func(t *testing.T, kind int) {
		x := made(t, kind, 2, low, high, low)
		checkCount(t, "new", x, 0, 0)
		for i, s := range []struct {
			key  string
			hits int
		}{{"a", 0}, {"a", 1}, {"a", 2}, {"b", 2}, {"b", 3}, {"a", 4}} {
			x.Request(s.key)
			checkCount(t, "request "+strconv.Itoa(i), x, i+1, s.hits)
		}
		hits := 4
		for i, key := range letters("cdacdbbacdeedcbaa") {
			if x.Has(key) {
				hits++
			}
			x.Request(key)
			checkCount(t, "on "+strconv.Itoa(i), x, 7+i, hits)
		}
		if hits < 7 {
			t.Errorf("%d hits", hits)
		}
	})
}

// P11.1, P11.2: what is no request doesn't count, whatever it does.
func TestCountOfNoRequest(t *testing.T) {
	inEachKind(t, func(t *testing.T, kind int) {
		x := filled(t, kind, 3, "aabcbd")
		requests, hits := x.Count()
		for name, call := range map[string]func(){
			"Kind":              func() { x.Kind() },
			"Most":              func() { x.Most() },
			"Has":               func() { x.Has("b"); x.Has("x") },
			"Len":               func() { x.Len() },
			"Remove":            func() { x.Remove("b"); x.Remove("x") },
			"Adopt":             func() { x.Adopt("y"); x.Adopt("z") },
			"Victim":            func() { x.Victim() },
			"Drop":              func() { x.Drop() },
			"Keys":              func() { x.Keys() },
			"Ghosts":            func() { x.Ghosts() },
			"Weight":            func() { x.Weight() },
			"Count":             func() { x.Count() },
			"Resize":            func() { x.Resize(2); x.Resize(0); x.Resize(3) },
			"Resize to no size": func() { x.Resize(-1); x.Resize(api.MaxCap + 1) },
		} {
			for range 3 {
				call()
				checkCount(t, name, x, requests, hits)
			}
		}
		x.Request("q")
		checkCount(t, "asked again", x, requests+1, hits)
		x.Request("q")
		checkCount(t, "and once more", x, requests+2, hits+1)
	})
}

// P11.1, P11.2: with no room at all all requests are misses, and count as such.
func TestCountWithNoRoom(t *testing.T) {
	inEachKind(t, func(t *testing.T, kind int) {
		x := made(t, kind, 0)
		for i, key := range letters("aabca") {
			ask(t, x, key, miss)
			checkCount(t, "of none", x, i+1, 0)
		}
		x.Adopt("a")
		resize(t, x, 1, "")
		checkCount(t, "resized", x, 5, 0)
		ask(t, x, "a", miss)
		checkCount(t, "with room for one", x, 6, 0)
		ask(t, x, "a", hit)
		checkCount(t, "which is hit", x, 7, 1)
		resize(t, x, 0, "a")
		ask(t, x, "a", miss)
		checkCount(t, "and no room again", x, 8, 1)
	})
}

// P11.1: only learners have a weight, which is a half at first, whatever happens but a regret.
func TestWeight(t *testing.T) {
	inEachKind(t, func(t *testing.T, kind int) {
		for _, most := range sizes {
			x := made(t, kind, most)
			for _, key := range append(letters("abcde"), "") {
				if learns(kind) {
					checkWeight(t, named(kind, most), x, half)
				} else {
					checkNoWeight(t, named(kind, most), x)
				}
				x.Request(key)
				x.Request(key)
			}
			x.Remove("a")
			x.Drop()
			x.Resize(1)
			if _, ok := x.Weight(); ok != learns(kind) {
				t.Errorf("%s: changed: it learns: %v", named(kind, most), ok)
			}
		}
	})
}

// P11.1: behind a regret the weight is the learner's, less for a ghost of the first expert, and more for one of the second.
func TestWeightBehindRegret(t *testing.T) {
	for _, kind := range []int{api.LeCaR, api.Cacheus} {
		for _, first := range []uint64{low, high} {
			x, c := both(t, kind, 2, "abcde", first, first, first)
			checkOwn(t, "three went", x, c)
			checkWeight(t, "three went", x, half)
			for _, ghost := range x.Ghosts() {
				x.Request(ghost)
				c.Request(ghost)
				checkOwn(t, "regretted", x, c)
			}
			if w, ok := x.Weight(); !ok || w == half || (w < half) != (first == low) {
				t.Errorf("%s: the weight is %d, %v", named(kind, 2), w, ok)
			}
		}
	}
	// Of a half each, the one falls to e to the power of -0.3375 of itself: 45 / 100, of age 1, by 3 / 4.
	x := filled(t, api.LeCaR, 3, "abcd")
	ask(t, x, "a", wentFor("b"))
	fallen := math.Exp(-0.3375)
	if w, _ := x.Weight(); math.Abs(float64(w)/float64(api.One)-fallen/(fallen+1)) > 1e-12 {
		t.Errorf("the weight is %v", float64(w)/float64(api.One))
	}
}

// P11.1: a learner draws from its own lane of the tape, and from no other one.
func TestOwnLane(t *testing.T) {
	for _, kind := range []int{api.LeCaR, api.Cacheus} {
		for _, lane := range []int{0, 1, 2} {
			lanes := [][]uint64{{high, high}, {high, high}, {high, high}}
			lanes[lane] = []uint64{low, low}
			tape := draw.New(lanes...)
			x := madeOf(t, kind, 1, tape, lane)
			request(x, "ab")
			// The first expert's ghost: its weight falls.
			ask(t, x, "a", wentFor("b"))
			if w, _ := x.Weight(); w >= half {
				t.Errorf("%s, lane %d: the weight is %d", named(kind, 1), lane, w)
			}
			for other := range 3 {
				if left := tape.Left(other); (left == 2) != (other != lane) {
					t.Errorf("%s, lane %d: %d draws are left in %d", named(kind, 1), lane, left, other)
				}
			}
		}
		for _, lane := range []int{-1, 1, math.MinInt, math.MaxInt} {
			tape := draw.New([]uint64{high, high})
			x, c := madeOf(t, kind, 2, tape, lane), own(t, kind, 2)
			for _, key := range letters("abcdaebcdab") {
				ask(t, x, key, c.Request(key))
				checkOwn(t, "no lane", x, c)
			}
			if tape.Left(0) != 2 {
				t.Errorf("lane %d: %d draws are left in 0", lane, tape.Left(0))
			}
		}
	}
}

// P11.1: the tape is the learner's: what others take from its lane it doesn't draw.
func TestTapeIsKept(t *testing.T) {
	for _, kind := range []int{api.LeCaR, api.Cacheus} {
		tape := draw.New([]uint64{high, low, high})
		x := madeOf(t, kind, 1, tape, 0)
		request(x, "a")
		tape.Next(0)
		ask(t, x, "b", wentFor("a"))
		ask(t, x, "c", wentFor("b"))
		check(t, "one by each", x, kind, 1, "c", "ab")
		if tape.Left(0) != 0 {
			t.Errorf("%d draws are left", tape.Left(0))
		}
	}
}

// P11.1: two instances on one tape go on each as if it were alone, and what doesn't learn takes no draw.
func TestSharedTape(t *testing.T) {
	inEachKind(t, func(t *testing.T, kind int) {
		lanes := [][]uint64{chance(1, 300), chance(2, 300), chance(3, 300)}
		tape := draw.New(lanes...)
		first, last := madeOf(t, kind, 4, tape, 0), madeOf(t, kind, 4, tape, 2)
		alone, lonely := draw.New(lanes[0]), draw.New(lanes[2])
		c, d := ownOf(t, kind, 4, alone, 0), ownOf(t, kind, 4, lonely, 0)
		for i := range 400 {
			one, other := strconv.Itoa(i*i%13), strconv.Itoa(i*i%11)
			ask(t, first, one, c.Request(one))
			ask(t, last, other, d.Request(other))
			if tape.Left(0) != alone.Left(0) || tape.Left(1) != 300 || tape.Left(2) != lonely.Left(0) || t.Failed() {
				t.Fatalf("step %d: %d, %d and %d draws are left", i, tape.Left(0), tape.Left(1), tape.Left(2))
			}
		}
		checkOwn(t, "the first", first, c)
		checkOwn(t, "the last", last, d)
		if taken := tape.Left(0) < 300 && tape.Left(2) < 300; taken != learns(kind) {
			t.Errorf("%d and %d draws are left", tape.Left(0), tape.Left(2))
		}
	})
}

// P11.1: two instances of one kind, size and draws have nothing in common, and do the same.
func TestSideBySide(t *testing.T) {
	inEachKind(t, func(t *testing.T, kind int) {
		draws := chance(5, 300)
		one, other := made(t, kind, 2, draws...), made(t, kind, 2, draws...)
		keys := letters("aabcbacaabdcda")
		var steps []api.Step
		for _, key := range keys {
			steps = append(steps, one.Request(key))
		}
		requests, hits := one.Count()
		check(t, "the other", other, kind, 2, "", "")
		checkCount(t, "the other", other, 0, 0)
		for i, key := range keys {
			ask(t, other, key, steps[i])
		}
		checkCount(t, "the other", other, requests, hits)
		for i := range 200 {
			key := strconv.Itoa(i * i % 7)
			ask(t, other, key, one.Request(key))
			checkOwn(t, "the other", other, one)
		}
		requests, hits = one.Count()
		resize(t, one, 5, "")
		checkSize(t, "the other", other, kind, 2)
		if gone, err := one.Resize(0); len(gone) != 2 || err != nil {
			t.Errorf("%q went, %v", gone, err)
		}
		request(one, "ab")
		if other.Len() != 2 || other.Most() != 2 {
			t.Errorf("the other has %q, of %d", other.Keys(), other.Most())
		}
		checkCount(t, "one", one, requests+2, hits)
		checkCount(t, "the other", other, requests, hits)
	})
}
