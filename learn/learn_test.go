package learn

import (
	"math"
	"strconv"
	"strings"
	"testing"

	"cachewise/api"
	"cachewise/draw"
	"cachewise/policy"
)

// cycle tells keys that come again and again, so that whoever goes is asked for soon.
func cycle(i, keys int) string { return strconv.Itoa(i * i % keys) }

// P10.1, P10.3: the chapter's example: without draws A is followed always, whatever its weight comes to be.
func TestExample(t *testing.T) {
	for kind, expert := range map[int]int{api.LeCaR: api.LRU, api.Cacheus: api.SRLRU} {
		for _, lane := range []int{0, 1, 2, -1, math.MinInt, math.MaxInt} {
			l := madeOf(t, kind, 4, draw.New(nil, []uint64{}), lane)
			p, err := policy.New(expert, 4)
			if err != nil {
				t.Fatal(err)
			}
			for i := range 600 {
				key := cycle(i, 23)
				// A's own ghosts are none.
				for _, ghost := range p.Ghosts() {
					p.Remove(ghost)
				}
				ask(t, l, key, p.Request(key))
				if l.rows[expertB].Len() != 0 || t.Failed() {
					t.Fatalf("kind %d: the ghosts are %q", kind, l.Ghosts())
				}
			}
			if l.Weight() >= half {
				t.Errorf("kind %d: A's weight is %d", kind, l.Weight())
			}
		}
	}
}

// P10.1: a new learner is of its kind and size, without residents or ghosts, with weight and rate as they begin.
func TestNew(t *testing.T) {
	inBothKinds(t, func(t *testing.T, kind int) {
		for _, most := range sizes {
			l := made(t, kind, most, 1, 2, 3)
			check(t, "new", l, state{})
			checkSize(t, "new", l, kind, most)
			checkWeight(t, "new", l, half)
			checkRate(t, "new", l, startRate)
			dropNone(t, l)
			remove(t, l, "a", false)
			remove(t, l, "", false)
			check(t, "asked", l, state{})
			checkLeft(t, "asked", l, 3)
		}
	})
}

// P10.1: of no kind there is no learner, whatever the size: that the size is none too isn't told.
func TestNewOfNoKind(t *testing.T) {
	for _, kind := range []int{math.MinInt, -6, -5, -2, -1, 0, 1, 2, 3, 4, 7, 8, 9, 100, 256 + 5, 1<<32 + 6, math.MaxInt} {
		for _, list := range [][]int{sizes, none} {
			for _, most := range list {
				tape := draw.New([]uint64{5})
				l, err := New(kind, most, tape, 0)
				name := "kind " + strconv.Itoa(kind) + ", of " + strconv.Itoa(most)
				if l != nil || tape.Left(0) != 1 {
					t.Errorf("%s: %v", name, l)
				}
				checkFault(t, name, err, "learn", api.ErrKind)
			}
		}
	}
}

// P10.1: of no size there is no learner.
func TestNewOfNoSize(t *testing.T) {
	inBothKinds(t, func(t *testing.T, kind int) {
		for _, most := range none {
			l, err := New(kind, most, draw.New(), 0)
			if l != nil {
				t.Errorf("of %d: %v", most, l)
			}
			checkFault(t, "of "+strconv.Itoa(most), err, "learn", api.ErrRange)
		}
	})
}

// P10.1, P10.2: the kind stays, and the size is that of the last Resize, whoever came or went.
func TestKindAndMost(t *testing.T) {
	inBothKinds(t, func(t *testing.T, kind int) {
		l := filled(t, kind, 3, "aabcbdcae")
		checkSize(t, "filled", l, kind, 3)
		l.Drop()
		l.Remove("a")
		l.Adopt("x")
		checkSize(t, "changed", l, kind, 3)
		for _, most := range append([]int{3, 4, 2, 0}, sizes...) {
			if _, err := l.Resize(most); err != nil {
				t.Errorf("Resize to %d: %v", most, err)
			}
			checkSize(t, "resized", l, kind, most)
			request(l, "ab")
			checkSize(t, "asked behind it", l, kind, most)
		}
	})
}

// P10.1, P10.2: a fault tells all in words, and is nobody else's: one that was changed doesn't come again.
func TestFaultsAreNew(t *testing.T) {
	l := made(t, api.LeCaR, 1)
	for range 3 {
		_, kind := New(4, 1, draw.New(), 0)
		_, size := New(5, -1, draw.New(), 0)
		_, resized := l.Resize(-1)
		for i, x := range []struct {
			err  error
			want string
		}{{kind, `learn "": cachewise: 7`}, {size, `learn "": cachewise: 1`}, {resized, `resize "": cachewise: 1`}} {
			if x.err.Error() != x.want {
				t.Errorf("%d: %v; want %s", i, x.err, x.want)
			}
			*x.err.(*api.Fault) = api.Fault{Op: "other", Key: "x", Err: api.ErrForm}
		}
	}
}

// P10.1, P10.2: two learners of one kind, size and draws have nothing in common, and do the same.
func TestSideBySide(t *testing.T) {
	inBothKinds(t, func(t *testing.T, kind int) {
		draws := []uint64{high, low, high, low}
		one, other := made(t, kind, 2, draws...), made(t, kind, 2, draws...)
		request(one, "aabcb")
		check(t, "the other", other, state{})
		checkWeight(t, "the other", other, half)
		checkLeft(t, "the other", other, 4)
		last := map[int]string{api.LeCaR: "a", api.Cacheus: "c"}[kind]
		for i, key := range letters("aabcb") {
			ask(t, other, key, []api.Step{miss, hit, miss, wentFor("b"), wentFor(last)}[i])
		}
		for i := range 200 {
			ask(t, other, cycle(i, 7), one.Request(cycle(i, 7)))
			if one.Weight() != other.Weight() || one.Rate() != other.Rate() {
				t.Fatalf("step %d: the weights are %d and %d, the rates %d and %d", i, one.Weight(), other.Weight(), one.Rate(), other.Rate())
			}
			checkKeys(t, "the other", other, one.Keys(), one.rows[expertA].Keys(), one.rows[expertB].Keys())
		}
		resize(t, one, 0, one.Keys()[0]+one.Keys()[1])
		if other.Len() != 2 || other.Most() != 2 {
			t.Errorf("the other has %q, of %d", other.Keys(), other.Most())
		}
	})
}

// P10.1: learners that share a tape draw each from a lane of its own, as if it were alone.
func TestSharedTape(t *testing.T) {
	inBothKinds(t, func(t *testing.T, kind int) {
		var lanes [3][]uint64
		x := uint64(7)
		for i := range 900 {
			x = next(x)
			lanes[i%3] = append(lanes[i%3], x)
		}
		tape := draw.New(lanes[:]...)
		first, last := madeOf(t, kind, 4, tape, 0), madeOf(t, kind, 4, tape, 2)
		alone, lonely := made(t, kind, 4, lanes[0]...), made(t, kind, 4, lanes[2]...)
		for i := range 400 {
			ask(t, first, cycle(i, 13), alone.Request(cycle(i, 13)))
			ask(t, last, cycle(i, 11), lonely.Request(cycle(i, 11)))
			if tape.Left(0) != alone.tape.Left(0) || tape.Left(1) != 300 || tape.Left(2) != lonely.tape.Left(0) || t.Failed() {
				t.Fatalf("step %d: %d, %d and %d draws are left", i, tape.Left(0), tape.Left(1), tape.Left(2))
			}
		}
		if tape.Left(0) == 300 || tape.Left(0) == tape.Left(2) {
			t.Errorf("%d draws are left in both lanes", tape.Left(0))
		}
	})
}

// P10.1: the tape is the learner's: what others take from its lane it doesn't draw.
func TestTapeIsKept(t *testing.T) {
	inBothKinds(t, func(t *testing.T, kind int) {
		tape := draw.New([]uint64{high, low, high})
		l := madeOf(t, kind, 1, tape, 0)
		request(l, "a")
		tape.Next(0)
		ask(t, l, "b", wentFor("a"))
		checkKeys(t, "by A's choice", l, []string{"b"}, []string{"a"}, nil)
		ask(t, l, "c", wentFor("b"))
		checkKeys(t, "by B's choice", l, []string{"c"}, []string{"a"}, []string{"b"})
		checkLeft(t, "all are taken", l, 0)
	})
}

// P10.2: no two answers share memory, and none is the learner's own.
func TestAnswersAreNew(t *testing.T) {
	inBothKinds(t, func(t *testing.T, kind int) {
		l := filled(t, kind, 4, "aabbcdefgh", low, low, high, high)
		residents, ha, hb := l.Keys(), l.rows[expertA].Keys(), l.rows[expertB].Keys()
		if len(residents) != 4 || len(ha) != 2 || len(hb) != 2 {
			t.Fatalf("%q, %q, %q", residents, ha, hb)
		}
		keys, others, ghosts, more := l.Keys(), l.Keys(), l.Ghosts(), l.Ghosts()
		keys[0], keys[3], ghosts[0], ghosts[3] = "x", "y", "z", "w"
		_, _ = append(others[:1], "z"), append(more[:1], "z")
		checkKeys(t, "answers changed", l, residents, ha, hb)
		gone, err := l.Resize(2)
		if err != nil || len(gone) != 2 {
			t.Fatalf("Resize to 2 is %q, %v", gone, err)
		}
		residents = l.Keys()
		gone[0], gone[1] = "x", "y"
		checkKeys(t, "who went changed", l, residents, ha, hb)
	})
}

// P10.1, P10.2: the empty key is one like any other, told from none by the true beside it.
func TestEmptyKey(t *testing.T) {
	inBothKinds(t, func(t *testing.T, kind int) {
		l := made(t, kind, 1, low, high, low, low)
		ask(t, l, "", miss)
		ask(t, l, "", hit)
		adopt(t, l, "", false)
		checkKeys(t, "it came", l, []string{""}, nil, nil)
		ask(t, l, "a", wentFor(""))
		checkKeys(t, "it went", l, []string{"a"}, []string{""}, nil)
		ask(t, l, "", wentFor("a"))
		checkKeys(t, "it came back", l, []string{""}, nil, []string{"a"})
		if l.Weight() >= half {
			t.Errorf("it wasn't regretted: %d", l.Weight())
		}
		drop(t, l, "")
		dropNone(t, l)
		adopt(t, l, "", true)
		ask(t, l, "b", wentFor(""))
		remove(t, l, "b", true)
		adopt(t, l, "", true)
		checkKeys(t, "adopted", l, []string{""}, nil, []string{"a"})
		resize(t, l, 1, "")
		ask(t, l, "c", wentFor(""))
		remove(t, l, "", false)
		checkKeys(t, "removed", l, []string{"c"}, nil, []string{"a"})
		remove(t, l, "c", true)
		adopt(t, l, "", true)
		if gone, err := l.Resize(0); len(gone) != 1 || gone[0] != "" || err != nil {
			t.Errorf("%q went, %v", gone, err)
		}
	})
}

// P10.1, P10.2: keys are bytes, texts or not, of any length, and each byte counts.
func TestKeysOfAnyBytes(t *testing.T) {
	keys := []string{"\xff", "\xfe", "\xff\xfe", "\x00", "\x00\x00", "\xc3", "\ufffd", "\xed\xa0\x80", strings.Repeat("\x80", 1000), strings.Repeat("\x80", 1001)}
	inBothKinds(t, func(t *testing.T, kind int) {
		l := made(t, kind, 1)
		for round := range 3 {
			for i, key := range keys {
				weight := l.Weight()
				want := miss
				if i+round > 0 {
					want = wentFor(keys[(i+len(keys)-1)%len(keys)])
				}
				ask(t, l, key, want)
				ask(t, l, key, hit)
				checkWeight(t, key, l, weight)
			}
		}
		resize(t, l, len(keys), "")
		for i, key := range keys[:8] {
			ask(t, l, key, miss)
			if l.Len() != i+2 || !l.Has(key) {
				t.Errorf("%q: %d residents", key, l.Len())
			}
		}
		for i, key := range keys[:4] {
			remove(t, l, key, true)
			adopt(t, l, key, true)
			adopt(t, l, key, false)
			if l.Len() != 9 {
				t.Errorf("%d: %d residents", i, l.Len())
			}
		}
	})
}

// next tells the next one of a row of numbers that looks like chance.
func next(x uint64) uint64 { return x*6364136223846793005 + 1442695040888963407 }
