// Package sum: the eight bytes by which damaged bytes are known.
package sum

import "salvage/raw"

const (
	modulus      = 2147483647
	firstFactor  = 48271
	secondFactor = 69621
)

// Of tells the sum of the bytes of s.
func Of(s string) string {
	first, second := uint64(1), uint64(1)
	for i := range len(s) {
		b := uint64(s[i])
		first = (firstFactor*first + b + 1) % modulus
		second = (secondFactor*second + b + 3) % modulus
	}
	return raw.Bytes(int(first), 4) + raw.Bytes(int(second), 4)
}
