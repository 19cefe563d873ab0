package gf

import (
	"math"
	"testing"
)

// divided is the product by long multiplication and long division, another way than the program's.
func divided(a, b byte) byte {
	const modulus = 1<<8 | 1<<4 | 1<<3 | 1<<2 | 1
	long := 0
	for i := 0; i < 8; i++ {
		for j := 0; j < 8; j++ {
			long ^= int(a>>i&1) * int(b>>j&1) << (i + j)
		}
	}
	for bit := 14; bit >= 8; bit-- {
		if long>>bit&1 == 1 {
			long ^= modulus << (bit - 8)
		}
	}
	return byte(long)
}

// repeated is a, n times, by so many products.
func repeated(a byte, n int) byte {
	power := byte(1)
	for i := 0; i < n; i++ {
		power = divided(power, a)
	}
	return power
}

func TestMulKnown(t *testing.T) {
	for _, c := range []struct{ a, b, want byte }{
		{2, 128, 29}, // x times x^7 is x^8, the least that is reduced
		{128, 2, 29},
		{1, 128, 128}, // x^7, the greatest that is not
		{3, 3, 5},
		{16, 16, 29},
		{128, 128, 19}, // x^14, the greatest power there can be
		{255, 255, 226},
		{0, 0, 0},
		{0, 255, 0},
		{255, 0, 0},
		{255, 1, 255},
		{1, 255, 255},
		{1, 1, 1},
	} {
		if got := Mul(c.a, c.b); got != c.want {
			t.Errorf("Mul(%d, %d) = %d, want %d", c.a, c.b, got, c.want)
		}
	}
}

func TestMulAll(t *testing.T) {
	for a := range 256 {
		for b := range 256 {
			if got, want := Mul(byte(a), byte(b)), divided(byte(a), byte(b)); got != want {
				t.Errorf("Mul(%d, %d) = %d, want %d", a, b, got, want)
			}
		}
	}
}

func TestInvOfNothing(t *testing.T) {
	if got := Inv(0); got != 0 {
		t.Errorf("Inv(0) = %d, want 0", got)
	}
}

func TestInvKnown(t *testing.T) {
	for _, c := range []struct{ a, want byte }{{1, 1}, {2, 142}, {142, 2}, {3, 244}, {255, 253}} {
		if got := Inv(c.a); got != c.want {
			t.Errorf("Inv(%d) = %d, want %d", c.a, got, c.want)
		}
	}
}

func TestInvAll(t *testing.T) {
	for a := 1; a < 256; a++ {
		if got := divided(byte(a), Inv(byte(a))); got != 1 {
			t.Errorf("%d times Inv(%d) = %d, want 1", a, a, got)
		}
	}
}

func TestPowBelowOne(t *testing.T) {
	for _, n := range []int{0, -1, -2, -3, -254, -255, -256, math.MinInt32, math.MinInt + 1, math.MinInt} {
		for a := range 256 {
			if got := Pow(byte(a), n); got != 1 {
				t.Errorf("Pow(%d, %d) = %d, want 1", a, n, got)
			}
		}
	}
}

func TestPowSmall(t *testing.T) {
	for a := range 256 {
		want := byte(1)
		for n := 1; n <= 600; n++ {
			want = divided(want, byte(a))
			if got := Pow(byte(a), n); got != want {
				t.Fatalf("Pow(%d, %d) = %d, want %d", a, n, got, want)
			}
		}
	}
}

// Powers of what is not 0 come round at 255, those of 0 never leave it.
func TestPowGreat(t *testing.T) {
	for _, n := range []int{1 << 20, math.MaxInt32, math.MaxInt / 2, math.MaxInt/2 + 1, math.MaxInt - 127, math.MaxInt - 1, math.MaxInt} {
		for a := range 256 {
			want := repeated(byte(a), n%255)
			if a == 0 {
				want = 0
			}
			if got := Pow(byte(a), n); got != want {
				t.Errorf("Pow(%d, %d) = %d, want %d", a, n, got, want)
			}
		}
	}
}
