package draw

import (
	"hash/fnv"
	"math"
	"math/big"
	"strconv"
	"strings"
	"testing"
)

// Keys whose hashes stand at an edge of a sample, searched for ahead.
const (
	keyOf0        = "77kepQFQ8Kl"
	keyOf1        = "4oNFGgc8cBy"
	keyBelow2to48 = "DlkEBbKcdVs"
	keyOf2to62    = "dMLLD\xe8K4X52"
	keyBelow2to63 = "x-r_AskO-OB"
)

// P2.2: these hashes were worked out apart from the program.
func TestHash(t *testing.T) {
	for _, c := range []struct {
		key  string
		want uint64
	}{
		{"", 17058014651485797458},
		{"\x00", 10417342739281038054},
		{"\x00\x00", 11236952637297492967},
		{"a", 17114084158190756429},
		{"ab", 6290588194905056836},
		{"ba", 16530860389066878843},
		{"key", 7349868639289661739},
		{"cachewise", 8980281580072628024},
		{"\xff", 12653900040892453933},
		{"\x80\xff", 14016624318058469249},
		{"\u00fc", 14915429739574649020},
		{strings.Repeat("x", 64), 18244215144216705217},
		{strings.Repeat("x", 65), 16148185476887349184},
		{strings.Repeat("0123456789", 100), 7867927832439340987},
		{keyOf0, 0},
		{keyOf1, 1},
		{keyBelow2to48, 1<<48 - 1},
		{keyOf2to62, 1 << 62},
		{keyBelow2to63, 1<<63 - 1},
	} {
		if got := Hash(c.key); got != c.want {
			t.Errorf("Hash of %q is %d; want %d", c.key, got, c.want)
		}
	}
}

// reference takes the bytes by the library's hash of that name, and the end by great numbers.
func reference(key string) *big.Int {
	f := fnv.New64a()
	f.Write([]byte(key))
	h := new(big.Int).SetUint64(f.Sum64())
	h.Xor(h, new(big.Int).Rsh(h, 33))
	h.Mul(h, new(big.Int).SetUint64(18397679294719823053))
	h.Mod(h, new(big.Int).Lsh(big.NewInt(1), 64))
	return h.Xor(h, new(big.Int).Rsh(h, 33))
}

// manyKeys are all keys of one byte, some of two, some numbers, and those at the edges.
func manyKeys() []string {
	keys := []string{"", keyOf0, keyOf1, keyBelow2to48, keyOf2to62, keyBelow2to63}
	for i := range 256 {
		keys = append(keys, string([]byte{byte(i)}), string([]byte{byte(7 * i), byte(i)}))
	}
	for i := range 2000 {
		keys = append(keys, "key "+strconv.Itoa(i*i))
	}
	return append(keys, strings.Repeat("\xfe", 1<<16))
}

// P2.2
func TestHashAgainstReference(t *testing.T) {
	for _, key := range manyKeys() {
		if got, want := Hash(key), reference(key); got != want.Uint64() {
			t.Errorf("Hash of %q is %d; want %d", key, got, want)
		}
	}
}

// edge is a key with the greatest shift that samples it.
type edge struct {
	key  string
	last int
}

// P2.2, P2.3
func TestSampledAtTheEdges(t *testing.T) {
	for _, e := range []edge{
		{"", 0}, {"a", 0}, {"ab", 1}, {"key", 1},
		{keyBelow2to63, 1}, {keyOf2to62, 1}, {keyBelow2to48, 16}, {keyOf1, 63},
	} {
		for shift := -3; shift <= 70; shift++ {
			if got := Sampled(e.key, shift); got != (shift <= e.last) {
				t.Errorf("%q is sampled by %d: %v", e.key, shift, got)
			}
		}
	}
}

// P2.2: a shift of 0 or less samples every key, one of 64 and more that of hash 0 alone.
func TestSampledBeyondTheEdges(t *testing.T) {
	for _, key := range manyKeys() {
		for _, shift := range []int{0, -1, -2, -63, -64, -65, -1 << 32, math.MinInt} {
			if !Sampled(key, shift) {
				t.Errorf("%q isn't sampled by %d", key, shift)
			}
		}
		for _, shift := range []int{64, 65, 127, 128, 1 << 32, math.MaxInt} {
			if Sampled(key, shift) != (key == keyOf0) {
				t.Errorf("%q is sampled by %d: %v", key, shift, Sampled(key, shift))
			}
		}
	}
}

// P2.2
func TestSampledAgainstReference(t *testing.T) {
	for _, key := range manyKeys() {
		h := reference(key)
		for shift := 0; shift <= 64; shift++ {
			bound := new(big.Int).Lsh(big.NewInt(1), uint(64-shift))
			if got, want := Sampled(key, shift), h.Cmp(bound) < 0; got != want {
				t.Errorf("%q is sampled by %d: %v; want %v", key, shift, got, want)
			}
		}
	}
}

// P2.3
func TestSampledByEachLesserShift(t *testing.T) {
	for _, key := range manyKeys() {
		for shift := -2; shift <= 66; shift++ {
			if Sampled(key, shift+1) && !Sampled(key, shift) {
				t.Errorf("%q is sampled by %d, but not by %d", key, shift+1, shift)
			}
		}
	}
}

// P2.2: what is told hangs on the key's bytes alone.
func TestHashTwice(t *testing.T) {
	first := Hash("again")
	Hash("between")
	if again := Hash(string([]byte("again"))); again != first {
		t.Errorf("%d at first, then %d", first, again)
	}
}
