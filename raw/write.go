// Package raw: numbers and texts as they stand in bytes, written and read.
package raw

// Bytes tells a number as so many bytes, the lowest first.
func Bytes(n, count int) string {
	bytes := make([]byte, count)
	for i := range bytes {
		bytes[i] = byte(n >> (8 * i))
	}
	return string(bytes)
}
