// Package field: numbers of eight bits, whose sums are exclusive ors and whose products are those of polynomials.
package field

// modulus is x^8 + x^4 + x^3 + x^2 + 1.
const modulus = 0x11d

// Times tells the product of two numbers.
func Times(a, b byte) byte {
	product, shifted := 0, int(a)
	for rest := b; rest != 0; rest >>= 1 {
		if rest&1 != 0 {
			product ^= shifted
		}
		shifted <<= 1
		if shifted > 255 {
			shifted ^= modulus
		}
	}
	return byte(product)
}

// Inverse tells the number whose product with a is 1; of 0, which has none, it tells 0.
func Inverse(a byte) byte {
	// The 255 numbers but 0 are a group, so that a to the power of 255 is 1: the inverse is a to the power of 254.
	inverse, square := byte(1), Times(a, a)
	for power := 2; power < 256; power *= 2 {
		inverse = Times(inverse, square)
		square = Times(square, square)
	}
	return inverse
}
