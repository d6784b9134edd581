package field

import "testing"

func TestTimesIsThatOfAField(t *testing.T) {
	for a := range 256 {
		for b := range 256 {
			x, y := byte(a), byte(b)
			if Times(x, y) != Times(y, x) {
				t.Fatalf("%d times %d hangs on the order", a, b)
			}
			for _, z := range []byte{0, 1, 2, 29, 128, 255} {
				if Times(x, y^z) != Times(x, y)^Times(x, z) {
					t.Fatalf("%d times the sum of %d and %d is not the sum of the products", a, b, z)
				}
				if Times(Times(x, y), z) != Times(x, Times(y, z)) {
					t.Fatalf("%d times %d times %d hangs on the order", a, b, z)
				}
			}
		}
	}
}

func TestModulus(t *testing.T) {
	if got := Times(2, 128); got != 29 {
		t.Errorf("2 times 128 = %d, want 29", got)
	}
}

func TestInverse(t *testing.T) {
	for a := 1; a < 256; a++ {
		if got := Times(byte(a), Inverse(byte(a))); got != 1 {
			t.Errorf("%d times its inverse %d = %d, want 1", a, Inverse(byte(a)), got)
		}
	}
	if got := Inverse(0); got != 0 {
		t.Errorf("inverse of 0 = %d, want 0", got)
	}
}
