package list

import (
	"slices"
	"strconv"
	"testing"
)

// row is a list as plainly as can be: the keys, and how many places there are.
type row struct {
	keys   []string
	places int
}

func (r *row) remove(key string) bool {
	at := slices.Index(r.keys, key)
	if at < 0 {
		return false
	}
	r.keys = slices.Delete(r.keys, at, at+1)
	return true
}

func (r *row) front(key string) {
	r.remove(key)
	r.keys = slices.Insert(r.keys, 0, key)
	r.places = max(r.places, len(r.keys))
}

func (r *row) back(key string) {
	r.remove(key)
	r.keys = append(r.keys, key)
	r.places = max(r.places, len(r.keys))
}

func (r *row) pop() (string, bool) {
	if len(r.keys) == 0 {
		return "", false
	}
	key := r.keys[len(r.keys)-1]
	r.remove(key)
	return key, true
}

// step does one of the changes with both, and tells whether they answer the same.
func step(l *List, r *row, kind uint64, key string) bool {
	switch {
	case kind < 5:
		l.Front(key)
		r.front(key)
	case kind < 10:
		l.Back(key)
		r.back(key)
	case kind < 16:
		return l.Remove(key) == r.remove(key)
	case kind < 19:
		got, ok := l.Pop()
		want, some := r.pop()
		return got == want && ok == some
	}
	return true
}

// keyOf lets 0 be the empty key.
func keyOf(n uint64) string {
	if n == 0 {
		return ""
	}
	return strconv.FormatUint(n, 10)
}

// P3.1, P3.2: a long run of changes, of few keys and of many, leaves what the plain row says.
func TestAgainstRow(t *testing.T) {
	for _, kinds := range []uint64{1, 2, 3, 5, 12, 60} {
		l, r, x := New(), &row{}, kinds
		for i := range 4000 {
			x = x*6364136223846793005 + 1442695040888963407
			key := keyOf(x >> 40 % kinds)
			if !step(l, r, x>>33%20, key) {
				t.Fatalf("%d keys, step %d: the answers of %q differ", kinds, i, key)
			}
			if x>>20%300 == 0 {
				l.Clear()
				*r = row{}
			}
			if l.Has(key) != slices.Contains(r.keys, key) {
				t.Fatalf("%d keys, step %d: Has of %q is %v", kinds, i, key, l.Has(key))
			}
			check(t, strconv.FormatUint(kinds, 10)+" keys, step "+strconv.Itoa(i), l, r.places, r.keys...)
			if t.Failed() {
				return
			}
		}
	}
}

// P3.1, P3.2: a great list is read in the order that it was laid in.
func TestManyKeys(t *testing.T) {
	const many = 100000
	l := New()
	for i := range many {
		l.Front(strconv.Itoa(i))
	}
	for i := range many {
		l.Front(strconv.Itoa(i))
	}
	for i := range many {
		if key, ok := l.Pop(); key != strconv.Itoa(i) || !ok {
			t.Fatalf("Pop is %q, %v; want %d", key, ok, i)
		}
	}
	check(t, "spent", l, many)
}
