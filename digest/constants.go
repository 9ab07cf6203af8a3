package digest

import "math/bits"

// constants: the hash at first, and a constant for each round: of the square roots of the first 8 primes,
// and of the cube roots of the first 64, the first 32 bits behind the point.
func constants() (start [8]uint32, rounds [64]uint32) {
	found := 0
	for p := uint64(2); found < len(rounds); p++ {
		if !prime(p) {
			continue
		}
		if found < len(start) {
			start[found] = fraction(p, belowSquareRoot)
		}
		rounds[found] = fraction(p, belowCubeRoot)
		found++
	}
	return start, rounds
}

// prime: whether n, above 1, is one.
func prime(n uint64) bool {
	for d := uint64(2); d*d <= n; d++ {
		if n%d == 0 {
			return false
		}
	}
	return true
}

// fraction: the first 32 bits behind the point of a root of p, which is below 8; below tells which root.
// A prime's roots are no fractions, so none is met exactly.
func fraction(p uint64, below func(x, p uint64) bool) uint32 {
	var x uint64
	for bit := uint64(1) << 34; bit > 0; bit >>= 1 {
		if below(x|bit, p) {
			x |= bit
		}
	}
	return uint32(x)
}

// belowSquareRoot: whether x, with 32 bits behind its point, is below the square root of p.
func belowSquareRoot(x, p uint64) bool {
	whole, _ := bits.Mul64(x, x)
	return whole < p
}

// belowCubeRoot: whether x, below 8 and with 32 bits behind its point, is below the cube root of p.
func belowCubeRoot(x, p uint64) bool {
	high, low := bits.Mul64(x, x)
	carry, _ := bits.Mul64(low, x)
	return high*x+carry < p<<32
}
