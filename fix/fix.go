// Package fix is layer 1: numbers from 0 to just below 4, in parts of 2^62.
// An answer that no number stands for is Most, or 0, or the number below it.
package fix

import (
	"math/bits"

	"cachewise/api"
)

// fraction is how many bits of a number lie behind its point.
const fraction = 62

// terms is how many terms the exponential has at most.
const terms = 64

// Add tells a + b.
func Add(a, b api.Fix) api.Fix {
	if a > api.Most-b {
		return api.Most
	}
	return a + b
}

// Sub tells a - b.
func Sub(a, b api.Fix) api.Fix {
	if a < b {
		return 0
	}
	return a - b
}

// Mul tells a * b.
func Mul(a, b api.Fix) api.Fix {
	high, low := bits.Mul64(uint64(a), uint64(b))
	if high>>fraction != 0 {
		return api.Most
	}
	return api.Fix(high<<(64-fraction) | low>>fraction)
}

// Div tells a / b; ErrRange, if b is 0.
func Div(a, b api.Fix) (api.Fix, error) {
	return fitting("div",
		func() bool { return b != 0 },
		func() api.Fix { return quotient(a, b) })
}

// Pow tells x to the n; ErrRange, if n is below 0.
func Pow(x api.Fix, n int) (api.Fix, error) {
	return fitting("pow",
		func() bool { return n >= 0 },
		func() api.Fix { return power(x, n) })
}

// Exp tells the exponential of x.
func Exp(x api.Fix) api.Fix {
	sum, term := api.One, api.One
	for number := api.Fix(1); number < terms && term != 0; number++ {
		term = Mul(term, x) / number
		sum = Add(sum, term)
	}
	return sum
}

// Fall tells the exponential of what is below 0 by x.
func Fall(x api.Fix) api.Fix { return quotient(api.One, Exp(x)) }

// Share tells a / (a + b), but at least least, and so much left of One;
// ErrRange, if both are 0, or least is above half of One.
func Share(a, b, least api.Fix) (api.Fix, error) {
	return fitting("share",
		func() bool { return (a != 0 || b != 0) && least <= api.One/2 },
		func() api.Fix { return min(max(part(a, b), least), api.One-least) })
}

// Whole tells a / b of whole numbers; ErrRange, if a is below 0, or b is 0 or less.
func Whole(a, b int) (api.Fix, error) {
	return fitting("whole",
		func() bool { return a >= 0 && b > 0 },
		func() api.Fix { return quotient(api.Fix(a), api.Fix(b)) })
}

// fitting asks first, so that number is only ever worked out of what it is made for.
func fitting(op string, fits func() bool, number func() api.Fix) (api.Fix, error) {
	if !fits() {
		return 0, &api.Fault{Op: op, Err: api.ErrRange}
	}
	return number(), nil
}

// quotient needs no b above 0: the test that keeps Div64 from overflow keeps 0 from it too.
func quotient(a, b api.Fix) api.Fix {
	high, low := uint64(a)>>(64-fraction), uint64(a)<<fraction
	if high >= uint64(b) {
		return api.Most
	}
	q, _ := bits.Div64(high, low, uint64(b))
	return api.Fix(q)
}

// power cuts down at each multiplication, so their order, lowest bit first, is part of the answer.
func power(x api.Fix, n int) api.Fix {
	p := api.One
	for ; n > 0; n >>= 1 {
		if n&1 == 1 {
			p = Mul(p, x)
		}
		x = Mul(x, x)
	}
	return p
}

// part halves ahead of a sum that no number stands for: Add would tell Most, and the part would be too great.
func part(a, b api.Fix) api.Fix {
	if a > api.Most-b {
		a, b = a/2, b/2
	}
	return quotient(a, a+b)
}
