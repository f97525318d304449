package weigh_test

import (
	"math"
	"math/big"
	"testing"

	"moorsom/api"
	"moorsom/weigh"
)

// edgeNumbers are numbers at and about the limits of fractions and of ints.
var edgeNumbers = []int{
	0, 1, -1, 2, -2, 3, -4, 5, 6, 7, 10, -15, 36, 999, -1000,
	31622, 31623, 31624,
	api.MaxNum - 1, api.MaxNum, api.MaxNum + 1, -api.MaxNum + 1, -api.MaxNum, -api.MaxNum - 1,
	2 * api.MaxNum, -2 * api.MaxNum, 4 * api.MaxNum, api.MaxNum * api.MaxNum,
	math.MaxInt, math.MaxInt - 1, math.MinInt, math.MinInt + 1, math.MinInt / 2,
	math.MaxInt32, math.MaxInt32 + 1, math.MinInt32, math.MaxUint32, math.MaxUint32 + 1,
}

// validFracs are fractions at the limits, and many small ones.
func validFracs() []api.Frac {
	l := []api.Frac{
		{N: api.MaxNum, D: 1}, {N: -api.MaxNum, D: 1}, {N: api.MaxNum - 1, D: 1},
		{N: 1, D: api.MaxNum}, {N: -1, D: api.MaxNum}, {N: api.MaxNum - 1, D: api.MaxNum},
		{N: -api.MaxNum, D: api.MaxNum - 1}, {N: api.MaxNum, D: api.MaxNum - 1},
		{N: api.MaxNum / 2, D: 3}, {N: 31623, D: 31622}, {N: -31623, D: 31624},
	}
	for d := 1; d <= 7; d++ {
		for n := -9; n <= 9; n++ {
			if new(big.Int).GCD(nil, nil, big.NewInt(int64(max(n, -n))), big.NewInt(int64(d))).Int64() == 1 {
				l = append(l, api.Frac{N: n, D: d})
			}
		}
	}
	return l
}

var invalidFracs = []api.Frac{
	{}, {N: 1}, {N: 0, D: 2}, {N: 0, D: api.MaxNum}, {N: 0, D: -1}, {N: 2, D: 4}, {N: -2, D: 4}, {N: 1, D: -2}, {N: -1, D: -1},
	{N: 7, D: 7}, {N: 35, D: 49}, {N: api.MaxNum + 1, D: 1}, {N: -api.MaxNum - 1, D: 1}, {N: 1, D: api.MaxNum + 1},
	{N: api.MaxNum, D: api.MaxNum}, {N: 2, D: api.MaxNum}, {N: math.MaxInt, D: 1}, {N: math.MinInt, D: 1},
	{N: 1, D: math.MaxInt}, {N: 1, D: math.MinInt}, {N: math.MinInt, D: math.MinInt}, {N: math.MaxInt, D: math.MaxInt},
}

func rat(f api.Frac) *big.Rat { return big.NewRat(int64(f.N), int64(f.D)) }

// fracOf is the valid fraction of a value, or ErrBig.
func fracOf(r *big.Rat) (api.Frac, api.Errno) {
	limit := big.NewInt(api.MaxNum)
	if r.Num().CmpAbs(limit) > 0 || r.Denom().Cmp(limit) > 0 {
		return api.Frac{}, api.ErrBig
	}
	return api.Frac{N: int(r.Num().Int64()), D: int(r.Denom().Int64())}, api.OK
}

func TestFracExamples(t *testing.T) {
	half, third, sixth := api.Frac{N: 1, D: 2}, api.Frac{N: 1, D: 3}, api.Frac{N: 1, D: 6}
	if f, e := weigh.Make(6, -4); f != (api.Frac{N: -3, D: 2}) || e != api.OK {
		t.Error("Make(6, -4)", f, e)
	}
	if f, e := weigh.Make(5, 0); f != (api.Frac{}) || e != api.ErrZero {
		t.Error("Make(5, 0)", f, e)
	}
	if f, e := weigh.Make(0, 0); f != (api.Frac{}) || e != api.ErrZero {
		t.Error("Make(0, 0)", f, e)
	}
	if f, e := weigh.Make(2000000000, 1); f != (api.Frac{}) || e != api.ErrBig {
		t.Error("Make(2000000000, 1)", f, e)
	}
	if f, e := weigh.Make(0, -5); f != (api.Frac{N: 0, D: 1}) || e != api.OK {
		t.Error("Make(0, -5)", f, e)
	}
	if f, e := weigh.Add(sixth, third); f != half || e != api.OK {
		t.Error("Add(1 / 6, 1 / 3)", f, e)
	}
	if f, e := weigh.Sub(half, third); f != sixth || e != api.OK {
		t.Error("Sub(1 / 2, 1 / 3)", f, e)
	}
	if f, e := weigh.Mul(half, third); f != sixth || e != api.OK {
		t.Error("Mul(1 / 2, 1 / 3)", f, e)
	}
	if f, e := weigh.Div(sixth, third); f != half || e != api.OK {
		t.Error("Div(1 / 6, 1 / 3)", f, e)
	}
	if f, e := weigh.Div(half, api.Frac{N: 0, D: 1}); f != (api.Frac{}) || e != api.ErrZero {
		t.Error("Div(1 / 2, 0 / 1)", f, e)
	}
	if f, e := weigh.Div(half, api.Frac{N: -3, D: 2}); f != (api.Frac{N: -1, D: 3}) || e != api.OK {
		t.Error("Div(1 / 2, -3 / 2)", f, e)
	}
}

func TestMakeOfEdges(t *testing.T) {
	for _, n := range edgeNumbers {
		for _, d := range edgeNumbers {
			want, wantErr := api.Frac{}, api.ErrZero
			if d != 0 {
				want, wantErr = fracOf(new(big.Rat).SetFrac(big.NewInt(int64(n)), big.NewInt(int64(d))))
			}
			if f, e := weigh.Make(n, d); f != want || e != wantErr {
				t.Errorf("Make(%d, %d) = %v, %d; want %v, %d", n, d, f, e, want, wantErr)
			}
		}
	}
}

func TestCheck(t *testing.T) {
	for _, f := range validFracs() {
		if e := weigh.Check(f); e != api.OK {
			t.Error(f, e)
		}
	}
	for _, f := range invalidFracs {
		if e := weigh.Check(f); e != api.ErrFrac {
			t.Error(f, e)
		}
	}
	// Whatever the parts are, valid is what Make returns for them.
	for _, n := range edgeNumbers {
		for _, d := range edgeNumbers {
			f := api.Frac{N: n, D: d}
			made, e := weigh.Make(n, d)
			if (weigh.Check(f) == api.OK) != (e == api.OK && made == f) {
				t.Error(f, weigh.Check(f), made, e)
			}
		}
	}
}

type operation struct {
	name  string
	do    func(a, b api.Frac) (api.Frac, api.Errno)
	exact func(a, b *big.Rat) *big.Rat
}

var operations = []operation{
	{"Add", weigh.Add, func(a, b *big.Rat) *big.Rat { return new(big.Rat).Add(a, b) }},
	{"Sub", weigh.Sub, func(a, b *big.Rat) *big.Rat { return new(big.Rat).Sub(a, b) }},
	{"Mul", weigh.Mul, func(a, b *big.Rat) *big.Rat { return new(big.Rat).Mul(a, b) }},
	{"Div", weigh.Div, func(a, b *big.Rat) *big.Rat { return new(big.Rat).Quo(a, b) }},
}

func TestOperationsAreExact(t *testing.T) {
	tooGreat := 0
	for _, op := range operations {
		for _, a := range validFracs() {
			for _, b := range validFracs() {
				want, wantErr := api.Frac{}, api.ErrZero
				if op.name != "Div" || b.N != 0 {
					want, wantErr = fracOf(op.exact(rat(a), rat(b)))
				}
				if wantErr == api.ErrBig {
					tooGreat++
				}
				if f, e := op.do(a, b); f != want || e != wantErr {
					t.Errorf("%s(%v, %v) = %v, %d; want %v, %d", op.name, a, b, f, e, want, wantErr)
				}
			}
		}
	}
	if tooGreat == 0 {
		t.Error("no result was too great")
	}
}

func TestOperationsOfInvalidFracs(t *testing.T) {
	zero, whole, greatest := api.Frac{N: 0, D: 1}, api.Frac{N: 1, D: 1}, api.Frac{N: api.MaxNum, D: 1}
	for _, op := range operations {
		for _, bad := range invalidFracs {
			// Behind ErrFrac come ErrZero, for a division by 0, and ErrBig.
			for _, pair := range [][2]api.Frac{{bad, whole}, {whole, bad}, {bad, zero}, {zero, bad}, {bad, bad}, {bad, greatest}, {greatest, bad}} {
				if f, e := op.do(pair[0], pair[1]); f != (api.Frac{}) || e != api.ErrFrac {
					t.Error(op.name, pair, f, e)
				}
			}
		}
	}
}

func TestCmp(t *testing.T) {
	for _, a := range validFracs() {
		for _, b := range validFracs() {
			if got, want := weigh.Cmp(a, b), rat(a).Cmp(rat(b)); got != want {
				t.Errorf("Cmp(%v, %v) = %d; want %d", a, b, got, want)
			}
			if (weigh.Cmp(a, b) == 0) != (a == b) {
				t.Error("equal fractions have equal values:", a, b)
			}
		}
		for _, bad := range invalidFracs {
			if weigh.Cmp(a, bad) != 0 || weigh.Cmp(bad, a) != 0 {
				t.Error("Cmp with a fraction that is not valid:", a, bad)
			}
		}
	}
}

func TestFloorCeilRound(t *testing.T) {
	for _, c := range []struct {
		f                 api.Frac
		floor, ceil, near int
	}{
		{api.Frac{N: -3, D: 2}, -2, -1, -1},
		{api.Frac{N: 3, D: 2}, 1, 2, 2},
		{api.Frac{N: -1, D: 2}, -1, 0, 0},
		{api.Frac{N: 1, D: 2}, 0, 1, 1},
		{api.Frac{N: 1, D: 3}, 0, 1, 0},
		{api.Frac{N: 2, D: 3}, 0, 1, 1},
		{api.Frac{N: -1, D: 3}, -1, 0, 0},
		{api.Frac{N: -2, D: 3}, -1, 0, -1},
		{api.Frac{N: 0, D: 1}, 0, 0, 0},
		{api.Frac{N: 7, D: 1}, 7, 7, 7},
		{api.Frac{N: -7, D: 1}, -7, -7, -7},
		{api.Frac{N: api.MaxNum, D: 1}, api.MaxNum, api.MaxNum, api.MaxNum},
		{api.Frac{N: -api.MaxNum, D: 1}, -api.MaxNum, -api.MaxNum, -api.MaxNum},
		{api.Frac{N: 1, D: api.MaxNum}, 0, 1, 0},
		{api.Frac{N: -1, D: api.MaxNum}, -1, 0, 0},
		{api.Frac{N: 999999999, D: 2}, 499999999, 500000000, 500000000},
		{api.Frac{N: -999999999, D: 2}, -500000000, -499999999, -499999999},
		{api.Frac{N: 499999999, D: api.MaxNum}, 0, 1, 0},
		{api.Frac{N: 500000001, D: api.MaxNum}, 0, 1, 1},
		{api.Frac{N: 999999999, D: api.MaxNum}, 0, 1, 1},
	} {
		floor, e1 := weigh.Floor(c.f)
		ceil, e2 := weigh.Ceil(c.f)
		near, e3 := weigh.Round(c.f)
		if floor != c.floor || ceil != c.ceil || near != c.near || e1 != api.OK || e2 != api.OK || e3 != api.OK {
			t.Error(c.f, floor, ceil, near, e1, e2, e3)
		}
	}
	for _, f := range invalidFracs {
		for i, do := range []func(api.Frac) (int, api.Errno){weigh.Floor, weigh.Ceil, weigh.Round} {
			if n, e := do(f); n != 0 || e != api.ErrFrac {
				t.Error(i, f, n, e)
			}
		}
	}
}

func TestRoundingIsNear(t *testing.T) {
	one, half := big.NewRat(1, 1), big.NewRat(1, 2)
	for _, f := range validFracs() {
		floor, _ := weigh.Floor(f)
		ceil, _ := weigh.Ceil(f)
		near, _ := weigh.Round(f)
		below := new(big.Rat).Sub(rat(f), big.NewRat(int64(floor), 1))
		above := new(big.Rat).Sub(big.NewRat(int64(ceil), 1), rat(f))
		off := new(big.Rat).Sub(big.NewRat(int64(near), 1), rat(f))
		if below.Sign() < 0 || below.Cmp(one) >= 0 {
			t.Error("Floor", f, floor)
		}
		if above.Sign() < 0 || above.Cmp(one) >= 0 {
			t.Error("Ceil", f, ceil)
		}
		if off.Cmp(half) > 0 || off.Cmp(new(big.Rat).Neg(half)) <= 0 {
			t.Error("Round", f, near)
		}
	}
}

func TestSumsAndProductsCommute(t *testing.T) {
	for _, op := range operations {
		if op.name == "Add" || op.name == "Mul" {
			testCommutes(t, op)
		}
	}
}

func testCommutes(t *testing.T, op operation) {
	l := validFracs()[:60]
	for _, a := range l {
		for _, b := range l {
			ab, e1 := op.do(a, b)
			ba, e2 := op.do(b, a)
			if ab != ba || e1 != e2 {
				t.Error(op.name, a, b, ab, ba, e1, e2)
			}
			for _, c := range l[:30] {
				left, e3 := op.do(ab, c)
				bc, e4 := op.do(b, c)
				right, e5 := op.do(a, bc)
				if e1 == api.OK && e3 == api.OK && e4 == api.OK && e5 == api.OK && left != right {
					t.Error(op.name, a, b, c, left, right)
				}
			}
		}
	}
}

func TestSubAndDivUndo(t *testing.T) {
	for _, a := range validFracs() {
		for _, b := range validFracs() {
			if sum, e := weigh.Add(a, b); e == api.OK {
				if f, e := weigh.Sub(sum, b); f != a || e != api.OK {
					t.Error("Sub", a, b, f, e)
				}
			}
			if product, e := weigh.Mul(a, b); e == api.OK && b.N != 0 {
				if f, e := weigh.Div(product, b); f != a || e != api.OK {
					t.Error("Div", a, b, f, e)
				}
			}
		}
	}
}
