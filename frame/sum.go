package frame

const (
	polynomial = 0x82F63B78
	allBits    = 0xFFFFFFFF
	numberSize = 4 // bytes of a number of 32 bits
)

// Sum: of all parts, one behind the other (CRC-32C).
func Sum(parts ...[]byte) uint32 { return newTable().sum(parts...) }

// table: for each value of the lowest eight bits, what their eight moves turn a number by.
type table [256]uint32

// newTable: the table; whoever sums many times makes it once.
func newTable() *table {
	var t table
	for i := range len(t) {
		t[i] = movedByEight(uint32(i))
	}
	return &t
}

// movedByEight: c, moved eight times one bit to the right, turned by the polynomial each time a 1 goes.
func movedByEight(c uint32) uint32 {
	for range 8 {
		lowest := c & 1
		c >>= 1
		if lowest == 1 {
			c ^= polynomial
		}
	}
	return c
}

// sum: of all parts, one behind the other.
func (t *table) sum(parts ...[]byte) uint32 {
	c := uint32(allBits)
	for _, p := range parts {
		for _, x := range p {
			c = c>>8 ^ t[byte(c)^x]
		}
	}
	return c ^ allBits
}

// bytesOf: those of a number, the lowest one first.
func bytesOf(x uint32) [numberSize]byte {
	var b [numberSize]byte
	for i := range numberSize {
		b[i] = byte(x >> (8 * i))
	}
	return b
}

// numberOf: the number that b begins with, the lowest byte first.
func numberOf(b []byte) uint32 {
	var x uint32
	for i := range numberSize {
		x |= uint32(b[i]) << (8 * i)
	}
	return x
}
