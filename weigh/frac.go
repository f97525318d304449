package weigh

import "moorsom/api"

// size is the size of a number; it is unsigned, as that of the least int is no int.
func size(n int) uint64 {
	if n < 0 {
		return -uint64(n)
	}
	return uint64(n)
}

// divisor is the greatest common divisor; that of 0 and b is b.
func divisor(a, b uint64) uint64 {
	for b != 0 {
		a, b = b, a%b
	}
	return a
}

// Make is the fraction n / d.
func Make(n, d int) (api.Frac, api.Errno) {
	if d == 0 {
		return api.Frac{}, api.ErrZero
	}
	top, bottom := size(n), size(d)
	common := divisor(top, bottom)
	top, bottom = top/common, bottom/common
	if top > api.MaxNum || bottom > api.MaxNum {
		return api.Frac{}, api.ErrBig
	}
	f := api.Frac{N: int(top), D: int(bottom)}
	if (n < 0) != (d < 0) {
		f.N = -f.N
	}
	return f, api.OK
}

// Check reports whether a fraction is valid.
func Check(f api.Frac) api.Errno {
	// A fraction is valid exactly if making it again leaves it as it is.
	made, e := Make(f.N, f.D)
	if e != api.OK || made != f {
		return api.ErrFrac
	}
	return api.OK
}

// checkBoth checks the fractions of a calculation.
func checkBoth(a, b api.Frac) api.Errno {
	if e := Check(a); e != api.OK {
		return e
	}
	return Check(b)
}

// Add is a sum.
func Add(a, b api.Frac) (api.Frac, api.Errno) {
	if e := checkBoth(a, b); e != api.OK {
		return api.Frac{}, e
	}
	return Make(a.N*b.D+b.N*a.D, a.D*b.D)
}

// Sub is a difference.
func Sub(a, b api.Frac) (api.Frac, api.Errno) {
	if e := checkBoth(a, b); e != api.OK {
		return api.Frac{}, e
	}
	return Make(a.N*b.D-b.N*a.D, a.D*b.D)
}

// Mul is a product.
func Mul(a, b api.Frac) (api.Frac, api.Errno) {
	if e := checkBoth(a, b); e != api.OK {
		return api.Frac{}, e
	}
	return Make(a.N*b.N, a.D*b.D)
}

// Div is a quotient.
func Div(a, b api.Frac) (api.Frac, api.Errno) {
	if e := checkBoth(a, b); e != api.OK {
		return api.Frac{}, e
	}
	return Make(a.N*b.D, a.D*b.N)
}

// Cmp is -1, 0 or 1: a is less, equal or greater; 0 too if one is not valid.
func Cmp(a, b api.Frac) int {
	if checkBoth(a, b) != api.OK || a == b {
		return 0
	}
	if a.N*b.D < b.N*a.D {
		return -1
	}
	return 1
}

// floorDiv is n / d rounded down, for d above 0.
func floorDiv(n, d int) int {
	if n%d < 0 {
		return n/d - 1
	}
	return n / d
}

// Floor is the greatest whole number that is at most f.
func Floor(f api.Frac) (int, api.Errno) {
	if e := Check(f); e != api.OK {
		return 0, e
	}
	return floorDiv(f.N, f.D), api.OK
}

// Ceil is the least whole number that is at least f.
func Ceil(f api.Frac) (int, api.Errno) {
	if e := Check(f); e != api.OK {
		return 0, e
	}
	return -floorDiv(-f.N, f.D), api.OK
}

// Round is the nearest whole number, of two the greater one.
func Round(f api.Frac) (int, api.Errno) {
	if e := Check(f); e != api.OK {
		return 0, e
	}
	return floorDiv(2*f.N+f.D, 2*f.D), api.OK
}
