package fix

import (
	"errors"
	"math"
	"testing"

	"cachewise/api"
)

const (
	one  = api.One
	half = api.One / 2
	most = api.Most
)

// call is one call with what it must answer.
type call struct {
	name string
	got  api.Fix
	err  error
	want api.Fix
}

func asked(name string, want api.Fix) func(api.Fix, error) call {
	return func(got api.Fix, err error) call { return call{name, got, err, want} }
}

func plain(name string, got, want api.Fix) call { return call{name, got, nil, want} }

func checkAnswers(t *testing.T, calls []call) {
	t.Helper()
	for _, c := range calls {
		if c.got != c.want || c.err != nil {
			t.Errorf("%s: got %d, %v; want %d", c.name, c.got, c.err, c.want)
		}
	}
}

// checkFaults asks for the whole form of a fault: its Op, no Key, the very number, and 0 beside it.
func checkFaults(t *testing.T, op string, calls []call) {
	t.Helper()
	for _, c := range calls {
		f, ok := c.err.(*api.Fault)
		if !ok {
			t.Errorf("%s: error %v is no *api.Fault", c.name, c.err)
			continue
		}
		if f.Op != op || f.Key != "" || f.Err != api.ErrRange || !errors.Is(c.err, api.ErrRange) {
			t.Errorf("%s: fault %q %q %v; want Op %q, no Key, ErrRange", c.name, f.Op, f.Key, f.Err, op)
		}
		if c.got != 0 {
			t.Errorf("%s: %d beside a fault", c.name, c.got)
		}
	}
}

// P1.1
func TestAdd(t *testing.T) {
	checkAnswers(t, []call{
		plain("0+0", Add(0, 0), 0),
		plain("1+2", Add(1, 2), 3),
		plain("half+half", Add(half, half), one),
		plain("One+One", Add(one, one), 2*one),
		plain("just Most", Add(most-1, 1), most),
		plain("Most+0", Add(most, 0), most),
		plain("0+Most", Add(0, most), most),
		plain("one too many", Add(most, 1), most),
		plain("one too many, turned", Add(1, most), most),
		plain("2+2", Add(2*one, 2*one), most),
		plain("Most+Most", Add(most, most), most),
	})
}

// P1.1
func TestSub(t *testing.T) {
	checkAnswers(t, []call{
		plain("0-0", Sub(0, 0), 0),
		plain("One-half", Sub(one, half), half),
		plain("Most-0", Sub(most, 0), most),
		plain("Most-1", Sub(most, 1), most-1),
		plain("Most-Most", Sub(most, most), 0),
		plain("One-One", Sub(one, one), 0),
		plain("half-One", Sub(half, one), 0),
		plain("0-1", Sub(0, 1), 0),
		plain("0-Most", Sub(0, most), 0),
	})
}

// P1.1
func TestMul(t *testing.T) {
	checkAnswers(t, []call{
		plain("half*half", Mul(half, half), one/4),
		plain("0*Most", Mul(0, most), 0),
		plain("Most*0", Mul(most, 0), 0),
		plain("One*One", Mul(one, one), one),
		plain("Most*One", Mul(most, one), most),
		plain("One*Most", Mul(one, most), most),
		plain("1*half is cut down", Mul(1, half), 0),
		plain("3*half is cut down", Mul(3, half), 1),
		plain("1*(One-1) is cut down", Mul(1, one-1), 0),
		plain("1*One", Mul(1, one), 1),
		plain("least*least", Mul(1, 1), 0),
		plain("3/2*5/2", Mul(one+half, 2*one+half), 3*one+3*(one/4)),
		plain("just below 4", Mul(2*one, 2*one-1), most-1),
		plain("just 4", Mul(2*one, 2*one), most),
		plain("above 4", Mul(3*one, one+half), most),
		plain("Most*(One+1)", Mul(most, one+1), most),
		plain("Most*Most", Mul(most, most), most),
	})
}

// P1.1
func TestDiv(t *testing.T) {
	checkAnswers(t, []call{
		asked("One/2", half)(Div(one, 2*one)),
		asked("One/One", one)(Div(one, one)),
		asked("0/One", 0)(Div(0, one)),
		asked("0/1", 0)(Div(0, 1)),
		asked("0/Most", 0)(Div(0, most)),
		asked("One/3 is cut down", one/3)(Div(one, 3*one)),
		asked("2/3 is cut down", 3074457345618258602)(Div(2*one, 3*one)),
		asked("1/Most is cut down", 0)(Div(1, most)),
		asked("Most/Most", one)(Div(most, most)),
		asked("Most/One", most)(Div(most, one)),
		asked("One/Most", one/4)(Div(one, most)),
		asked("least/least", one)(Div(1, 1)),
		asked("3 parts/1 part", 3*one)(Div(3, 1)),
		asked("4 parts/1 part", most)(Div(4, 1)),
		asked("just 4", most)(Div(one, one/4)),
		asked("just below 4", most-15)(Div(one, one/4+1)),
		asked("Most/(One-1)", most)(Div(most, one-1)),
		asked("One/least", most)(Div(one, 1)),
		asked("Most/least", most)(Div(most, 1)),
	})
	checkFaults(t, "div", []call{
		asked("0/0", 0)(Div(0, 0)),
		asked("1/0", 0)(Div(1, 0)),
		asked("One/0", 0)(Div(one, 0)),
		asked("Most/0", 0)(Div(most, 0)),
	})
}

// P1.1
func TestWhole(t *testing.T) {
	checkAnswers(t, []call{
		asked("1/3", one/3)(Whole(1, 3)),
		asked("45/100", 2075258708292324556)(Whole(45, 100)),
		asked("1/1000", one/1000)(Whole(1, 1000)),
		asked("0/1", 0)(Whole(0, 1)),
		asked("0/greatest", 0)(Whole(0, math.MaxInt)),
		asked("7/7", one)(Whole(7, 7)),
		asked("3/1", 3*one)(Whole(3, 1)),
		asked("7/2", 3*one+half)(Whole(7, 2)),
		asked("4/1", most)(Whole(4, 1)),
		asked("greatest/1", most)(Whole(math.MaxInt, 1)),
		asked("greatest/greatest", one)(Whole(math.MaxInt, math.MaxInt)),
		asked("1/greatest", 0)(Whole(1, math.MaxInt)),
		asked("2/greatest", 1)(Whole(2, math.MaxInt)),
	})
	checkFaults(t, "whole", []call{
		asked("-1/1", 0)(Whole(-1, 1)),
		asked("least/1", 0)(Whole(math.MinInt, 1)),
		asked("1/0", 0)(Whole(1, 0)),
		asked("0/0", 0)(Whole(0, 0)),
		asked("1/-1", 0)(Whole(1, -1)),
		asked("1/least", 0)(Whole(1, math.MinInt)),
		asked("-1/-1", 0)(Whole(-1, -1)),
		asked("-1/0", 0)(Whole(-1, 0)),
	})
}

// P1.2: the rows of 1/3, 2/3 and 5/7 are other numbers if the multiplications stand in another order.
func TestPow(t *testing.T) {
	checkAnswers(t, []call{
		asked("half to 10", one>>10)(Pow(half, 10)),
		asked("0 to 0", one)(Pow(0, 0)),
		asked("half to 0", one)(Pow(half, 0)),
		asked("Most to 0", one)(Pow(most, 0)),
		asked("0 to 1", 0)(Pow(0, 1)),
		asked("half to 1", half)(Pow(half, 1)),
		asked("Most to 1", most)(Pow(most, 1)),
		asked("One to greatest", one)(Pow(one, math.MaxInt)),
		asked("half to 62", 1)(Pow(half, 62)),
		asked("half to 63", 0)(Pow(half, 63)),
		asked("1.5 to 2", 2*one+one/4)(Pow(one+half, 2)),
		asked("1.5 to 3", 3*one+3*(one/8))(Pow(one+half, 3)),
		asked("1.5 to 4", most)(Pow(one+half, 4)),
		asked("2 to 2", most)(Pow(2*one, 2)),
		asked("Most to greatest", most)(Pow(most, math.MaxInt)),
		asked("One-1 to greatest", 624123832921396489)(Pow(one-1, math.MaxInt)),
		asked("One-1 to 1000", one-1000)(Pow(one-1, 1000)),
		asked("1/3 to 5", 18978131763075670)(Pow(one/3, 5)),
		asked("1/3 to 10", 78099307666977)(Pow(one/3, 10)),
		asked("1/3 to 11", 26033102555659)(Pow(one/3, 11)),
		asked("2/3 to 13", 23695908459551271)(Pow(one/3*2, 13)),
		asked("2/3 to 100", 11)(Pow(one/3*2, 100)),
		asked("5/7 to 7", 437485316722550830)(Pow(one/7*5+1, 7)),
	})
	checkFaults(t, "pow", []call{
		asked("half to -1", 0)(Pow(half, -1)),
		asked("0 to -1", 0)(Pow(0, -1)),
		asked("One to least", 0)(Pow(one, math.MinInt)),
		asked("Most to -2", 0)(Pow(most, -2)),
	})
}

// P1.2: 6393154322601327833 is the first number whose exponential is above Most.
func TestExp(t *testing.T) {
	checkAnswers(t, []call{
		plain("0", Exp(0), one),
		plain("least", Exp(1), one+1),
		plain("1/3", Exp(one/3), 6436126307913059387),
		plain("half", Exp(half), 7603384832371617566),
		plain("One", Exp(one), 12535862302449814161),
		plain("4/3", Exp(one/3*4+1), 17495205188467275059),
		plain("the last below Most", Exp(6393154322601327832), 18446744073709551609),
		plain("the first at Most", Exp(6393154322601327833), most),
		plain("2", Exp(2*one), most),
		plain("3", Exp(3*one), most),
		plain("Most", Exp(most), most),
	})
}

// P1.2
func TestFall(t *testing.T) {
	checkAnswers(t, []call{
		plain("0", Fall(0), one),
		plain("least", Fall(1), one-1),
		plain("1/3", Fall(one/3), 3304417426738596262),
		plain("half", Fall(half), 2797128963144291327),
		plain("One", Fall(one), 1696544475317221319),
		plain("where Exp is Most", Fall(2*one), one/4),
		plain("Most", Fall(most), one/4),
	})
}

// P1.3
func TestShare(t *testing.T) {
	hundredth := one / 100
	checkAnswers(t, []call{
		asked("1 of 4", one/4)(Share(one/2, one+half, 0)),
		asked("1 of 3 is cut down", one/3)(Share(1, 2, 0)),
		asked("2 of 3 is cut down", 3074457345618258602)(Share(2, 1, 0)),
		asked("none of it", 0)(Share(0, 5, 0)),
		asked("all of it", one)(Share(5, 0, 0)),
		asked("least alone", one)(Share(1, 0, 0)),
		asked("Most alone", one)(Share(most, 0, 0)),
		asked("none of Most", 0)(Share(0, most, 0)),
		asked("at the least", hundredth)(Share(0, 5, hundredth)),
		asked("just below the least", hundredth)(Share(hundredth-1, one-hundredth+1, hundredth)),
		asked("just above the least", hundredth+1)(Share(hundredth+1, one-hundredth-1, hundredth)),
		asked("at the greatest", one-hundredth)(Share(5, 0, hundredth)),
		asked("just above the greatest", one-hundredth)(Share(one-hundredth+1, hundredth-1, hundredth)),
		asked("just below the greatest", one-hundredth-1)(Share(one-hundredth-1, hundredth+1, hundredth)),
		asked("least of half, below", half)(Share(0, 1, half)),
		asked("least of half, above", half)(Share(1, 0, half)),
		asked("least of half, between", half)(Share(1, 2, half)),
		asked("least just below half", half-1)(Share(0, 1, half-1)),
		asked("sum just Most", one/4-1)(Share(one-1, 3*one, 0)),
		asked("sum Most and 1", one/4)(Share(one, 3*one, 0)),
		asked("both Most", half)(Share(most, most, 0)),
		asked("halved to 0", 0)(Share(1, most, 0)),
		asked("halved to all", one)(Share(most, 1, 0)),
		asked("3 halved to 1", 0)(Share(3, most, 0)),
		asked("9 halved to 4", 1)(Share(9, most, 0)),
	})
	checkFaults(t, "share", []call{
		asked("both 0", 0)(Share(0, 0, 0)),
		asked("both 0, least of half", 0)(Share(0, 0, half)),
		asked("both 0, least above half", 0)(Share(0, 0, half+1)),
		asked("least above half", 0)(Share(1, 1, half+1)),
		asked("least of One", 0)(Share(one, one, one)),
		asked("least of Most", 0)(Share(most, most, most)),
	})
}
