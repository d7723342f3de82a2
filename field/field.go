// Package field is layer 1: numbers modulo a prime. See shared/doc/01-field.md.
package field

import (
	"math/bits"

	"affidavit/api"
)

// Right modulus?
func Right(p uint64) bool { return p >= 2 && p < api.MostPrime }

// Has a modulus all these numbers?
func Has(p uint64, l ...uint64) bool {
	for _, a := range l {
		if a >= p {
			return false
		}
	}
	return Right(p)
}

// Norm: what is left of a number.
func Norm(p, a uint64) (uint64, api.Errno) {
	if !Right(p) {
		return 0, api.ErrArg
	}
	return a % p, api.OK
}

// Add numbers.
func Add(p, a, b uint64) (uint64, api.Errno) {
	if !Has(p, a, b) {
		return 0, api.ErrArg
	}
	return less(p, a+b), api.OK
}

// Sub numbers.
func Sub(p, a, b uint64) (uint64, api.Errno) {
	if !Has(p, a, b) {
		return 0, api.ErrArg
	}
	return less(p, a+p-b), api.OK
}

// Mul numbers.
func Mul(p, a, b uint64) (uint64, api.Errno) {
	if !Has(p, a, b) {
		return 0, api.ErrArg
	}
	return times(p, a, b), api.OK
}

// Pow of a number.
func Pow(p, a, n uint64) (uint64, api.Errno) {
	if !Has(p, a) {
		return 0, api.ErrArg
	}
	power := uint64(1)
	for ; n > 0; n >>= 1 {
		if n&1 == 1 {
			power = times(p, power, a)
		}
		a = times(p, a, a)
	}
	return power, api.OK
}

// Inv of a number.
func Inv(p, a uint64) (uint64, api.Errno) {
	if !Has(p, a) {
		return 0, api.ErrArg
	}
	// Euclid's rule: modulo p, last is always a times s, and next a times t.
	last, next := p, a
	s, t := uint64(0), uint64(1)
	for next != 0 {
		q := last / next
		last, next = next, last%next
		s, t = t, less(p, s+p-times(p, q, t))
	}
	if last != 1 {
		return 0, api.ErrZero
	}
	return s, api.OK
}

// Div numbers.
func Div(p, a, b uint64) (uint64, api.Errno) {
	if !Has(p, a, b) {
		return 0, api.ErrArg
	}
	c, e := Inv(p, b)
	if e != api.OK {
		return 0, e
	}
	return times(p, a, c), api.OK
}

// Dot product.
func Dot(p uint64, a, b []uint64) (uint64, api.Errno) {
	if len(a) != len(b) || !Has(p, a...) || !Has(p, b...) {
		return 0, api.ErrArg
	}
	// The upper half of the sum is kept below p: so it never overflows, and one division at the end will do.
	var high, low uint64
	for i := range a {
		h, l := bits.Mul64(a[i], b[i])
		var carry uint64
		low, carry = bits.Add64(low, l, 0)
		high = less(p, high+h+carry)
	}
	return left(p, high, low), api.OK
}

// less is a, that is below 2 p, modulo p.
func less(p, a uint64) uint64 {
	if a >= p {
		return a - p
	}
	return a
}

// left is what is left of a number of two words modulo p; its upper half has to be below p, or bits.Div64 panics.
func left(p, high, low uint64) uint64 {
	_, rest := bits.Div64(high, low, p)
	return rest
}

// times is a product modulo p; with one of the two below p, the upper half of the product is too.
func times(p, a, b uint64) uint64 {
	high, low := bits.Mul64(a, b)
	return left(p, high, low)
}
