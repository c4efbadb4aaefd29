// Package fix is layer 1: see shared/doc/01-fix.md.
package fix

import "credenza/api"

const (
	// pointBits is how many bits are behind the point: api.One is 2^pointBits.
	pointBits = 16
	// mostShift is the greatest n of Half: 2^62 is the greatest power of two that an int64 holds.
	mostShift = 62
)

// Wide: v, cut to the wide range.
func Wide(v int64) int32 { return cut(v, -api.Wide-1, api.Wide) }

// Narrow: v, cut to the narrow range.
func Narrow(v int64) int32 { return cut(v, -api.Narrow, api.Narrow) }

// cut tells the nearest number from least to most; both are int32, so that every answer is one.
func cut(v int64, least, most int32) int32 {
	if v < int64(least) {
		return least
	}
	if v > int64(most) {
		return most
	}
	return int32(v)
}

// Half: v divided by 2^n, rounded.
func Half(v int64, n int) int64 {
	if n < 0 {
		n = 0
	}
	if n > mostShift {
		n = mostShift
	}
	floor := v >> n
	rest := v - floor<<n
	return nearest(floor, rest, 1<<n)
}

// Ratio: a divided by b, rounded; 0, if b isn't above 0.
func Ratio(a, b int64) int64 {
	if b <= 0 {
		return 0
	}
	floor, rest := a/b, a%b
	// Go's division is towards 0; nearest wants what is rounded down.
	if rest < 0 {
		floor--
		rest += b
	}
	return nearest(floor, rest, b)
}

// nearest rounds floor and rest / whole, with rest from 0 to whole - 1, halves to the even number.
func nearest(floor, rest, whole int64) int64 {
	// Twice rest could be too great for an int64: rest is held against what lacks to the whole.
	lack := whole - rest
	if rest > lack || rest == lack && floor&1 != 0 {
		return floor + 1
	}
	return floor
}

// Add: the sum, cut to the wide range.
func Add(a, b int32) int32 { return Wide(int64(a) + int64(b)) }

// Sub: the difference, cut to the wide range.
func Sub(a, b int32) int32 { return Wide(int64(a) - int64(b)) }

// Mul: the product, divided by 2^16, rounded, cut to the wide range.
func Mul(a, b int32) int32 { return Wide(Half(int64(a)*int64(b), pointBits)) }

// Div: a times 2^16, divided by b, rounded, cut to the wide range.
func Div(a, b int32) int32 {
	if b == 0 {
		return endBySign(a)
	}
	over, under := int64(a)*api.One, int64(b)
	// Ratio wants a divisor above 0; both with the other sign are the same fraction.
	if under < 0 {
		over, under = -over, -under
	}
	return Wide(Ratio(over, under))
}

// endBySign tells what a number divided by 0 is: the end of the wide range on its side of 0.
func endBySign(a int32) int32 {
	if a > 0 {
		return api.Wide
	}
	if a < 0 {
		return -api.Wide - 1
	}
	return 0
}

// Of: n times 2^16, cut to the wide range.
func Of(n int) int32 {
	// Cut ahead of the product too, so that it can't go round; what is cut there is cut behind as well.
	return Wide(int64(Wide(int64(n))) * api.One)
}
