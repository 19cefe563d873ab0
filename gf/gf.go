// Package gf multiplies bytes as polynomials over two elements, modulo x^8 + x^4 + x^3 + x^2 + 1: see shared/doc/01-gf.md.
package gf

import "math/bits"

// reduction is what x^8 leaves modulo the polynomial: x^4 + x^3 + x^2 + 1.
const reduction = 0x1d

// inverting: the 255 bytes other than 0 form a group, so that the power 255 of each is 1, and the power 254 its inverse.
const inverting = 254

// double multiplies a by x.
func double(a byte) byte {
	if a>>7 == 1 {
		return a<<1 ^ reduction
	}
	return a << 1
}

// Mul is the product of a and b.
func Mul(a, b byte) byte {
	var product byte
	for bit := range 8 {
		if b>>bit&1 == 1 {
			product ^= a
		}
		a = double(a)
	}
	return product
}

// Inv is the byte whose product with a is 1; 0 of 0, of which each power above the lowest is 0.
func Inv(a byte) byte {
	return Pow(a, inverting)
}

// Pow is the product of n times a; 1, if n is below 1.
func Pow(a byte, n int) byte {
	if n < 1 {
		return 1
	}
	power := byte(1)
	// n may be as great as an int can be: squaring goes through its bits, not through its units.
	for bit := range bits.Len(uint(n)) {
		if n>>bit&1 == 1 {
			power = Mul(power, a)
		}
		a = Mul(a, a)
	}
	return power
}
