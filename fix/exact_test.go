package fix

import (
	"math/big"
	"testing"

	"cachewise/api"
)

// samples tells the edges and a fixed row of numbers of all magnitudes between them.
func samples() []api.Fix {
	out := []api.Fix{0, 1, 2, 3, 4, 5, half - 1, half, half + 1, one/3*4 + 1,
		one / 4, one/4 + 1, one - 1, one, one + 1, one + half, 2*one - 1, 2 * one, 2*one + 1, 3 * one, most - 1, most}
	x := uint64(1)
	for i := range 64 {
		x = x*6364136223846793005 + 1442695040888963407
		out = append(out, api.Fix(x>>(i%64)))
	}
	return out
}

func wide(a api.Fix) *big.Int { return new(big.Int).SetUint64(uint64(a)) }

// fitted tells what a whole number of parts is as a number.
func fitted(n *big.Int) api.Fix {
	switch {
	case n.Sign() < 0:
		return 0
	case n.Cmp(wide(most)) > 0:
		return most
	}
	return api.Fix(n.Uint64())
}

func exactMul(a, b api.Fix) api.Fix {
	n := new(big.Int).Mul(wide(a), wide(b))
	return fitted(n.Rsh(n, 62))
}

func exactDiv(a, b api.Fix) api.Fix {
	n := new(big.Int).Lsh(wide(a), 62)
	return fitted(n.Quo(n, wide(b)))
}

func exactPow(x api.Fix, n int) api.Fix {
	answer, square := one, x
	for bit := range 63 {
		if n>>bit&1 == 1 {
			answer = exactMul(answer, square)
		}
		square = exactMul(square, square)
	}
	return answer
}

func exactExp(x api.Fix) api.Fix {
	sum, term := wide(one), one
	for i := 1; i < 64 && term != 0; i++ {
		term = fitted(new(big.Int).Quo(wide(exactMul(term, x)), big.NewInt(int64(i))))
		sum.Add(sum, wide(term))
	}
	return fitted(sum)
}

func exactShare(a, b, least api.Fix) api.Fix {
	sum := new(big.Int).Add(wide(a), wide(b))
	if sum.Cmp(wide(most)) > 0 {
		a, b = a>>1, b>>1
		sum.Add(wide(a), wide(b))
	}
	answer := exactDiv(a, fitted(sum))
	if answer < least {
		return least
	}
	if answer > one-least {
		return one - least
	}
	return answer
}

// P1.1
func TestSumsAndProductsAreExact(t *testing.T) {
	for _, a := range samples() {
		for _, b := range samples() {
			checkAnswers(t, []call{
				plain("Add", Add(a, b), fitted(new(big.Int).Add(wide(a), wide(b)))),
				plain("Sub", Sub(a, b), fitted(new(big.Int).Sub(wide(a), wide(b)))),
				plain("Mul", Mul(a, b), exactMul(a, b)),
			})
		}
	}
}

// P1.1
func TestQuotientsAreExact(t *testing.T) {
	for _, a := range samples() {
		for _, b := range samples() {
			if b != 0 {
				checkAnswers(t, []call{asked("Div", exactDiv(a, b))(Div(a, b))})
			}
			if n, m := int(a), int(b); n >= 0 && m > 0 {
				checkAnswers(t, []call{asked("Whole", exactDiv(a, b))(Whole(n, m))})
			}
		}
	}
}

// P1.2
func TestPowersAreExact(t *testing.T) {
	for _, x := range samples() {
		checkAnswers(t, []call{
			plain("Exp", Exp(x), exactExp(x)),
			plain("Fall", Fall(x), exactDiv(one, exactExp(x))),
		})
		for n := range 70 {
			checkAnswers(t, []call{asked("Pow", exactPow(x, n))(Pow(x, n))})
		}
		for _, n := range []int{1000, 1<<24 - 1, 1 << 24, 1<<62 + 1, 1<<63 - 1} {
			checkAnswers(t, []call{asked("Pow", exactPow(x, n))(Pow(x, n))})
		}
	}
}

// P1.3
func TestSharesAreExact(t *testing.T) {
	for _, a := range samples() {
		for _, b := range samples() {
			for _, least := range []api.Fix{0, 1, one / 100, half - 1, half} {
				if a != 0 || b != 0 {
					checkAnswers(t, []call{asked("Share", exactShare(a, b, least))(Share(a, b, least))})
				}
			}
		}
	}
}

// P1.4
func TestMulHangsOnNoOrder(t *testing.T) {
	for _, a := range samples() {
		for _, b := range samples() {
			if Mul(a, b) != Mul(b, a) {
				t.Errorf("Mul(%d, %d) is %d, turned %d", a, b, Mul(a, b), Mul(b, a))
			}
		}
	}
}

// P1.4
func TestMulByOneOrLessMakesNoMore(t *testing.T) {
	for _, a := range samples() {
		for _, b := range samples() {
			if b <= one && Mul(a, b) > a {
				t.Errorf("Mul(%d, %d) is %d", a, b, Mul(a, b))
			}
		}
	}
}

// P1.4
func TestFallIsNeverAboveOne(t *testing.T) {
	for _, x := range samples() {
		if Fall(x) > one {
			t.Errorf("Fall(%d) is %d", x, Fall(x))
		}
	}
}
