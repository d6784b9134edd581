package salvage_test

import (
	"strings"
	"testing"

	"salvage/api"
	"salvage/salvage"
)

func slowSum(s string) string {
	first, second := 1, 1
	for _, b := range []byte(s) {
		first = (48271*first + int(b) + 1) % 2147483647
		second = (69621*second + int(b) + 3) % 2147483647
	}
	var bytes []byte
	for _, n := range []int{first, second} {
		for range 4 {
			bytes = append(bytes, byte(n%256))
			n /= 256
		}
	}
	return string(bytes)
}

func TestP3SumOfExamples(t *testing.T) {
	for _, c := range []struct{ s, want string }{
		{"", "\x01\x00\x00\x00\x01\x00\x00\x00"},
		{"a", "\xf1\xbc\x00\x00\x59\x10\x01\x00"},
		{"\x00", "\x90\xbc\x00\x00\xf8\x0f\x01\x00"},
		{"\xff", "\x8f\xbd\x00\x00\xf7\x10\x01\x00"},
	} {
		if got := salvage.Sum(c.s); got != c.want {
			t.Errorf("Sum(%q) = %q, want %q", c.s, got, c.want)
		}
	}
}

func TestP3SumOfAnyBytes(t *testing.T) {
	all := make([]byte, 256)
	for i := range all {
		all[i] = byte(i)
	}
	texts := []string{"salvage", "ab", "ba", "é\u2028", string(all), strings.Repeat("\xff", 5000), strings.Repeat("\x00", 5000), strings.Repeat("long ", 300000)}
	for i := range 256 {
		texts = append(texts, string(all[i:i+1]), string(all[:i]))
	}
	for _, s := range texts {
		if got, want := salvage.Sum(s), slowSum(s); got != want {
			t.Errorf("Sum of %d bytes %.20q = %q, want %q", len(s), s, got, want)
		}
	}
}

func TestP3TimesOfExamples(t *testing.T) {
	for _, c := range []struct{ a, b, want int }{{2, 128, 29}, {3, 7, 9}, {0, 255, 0}, {255, 0, 0}, {0, 0, 0}, {1, 255, 255}, {128, 2, 29}, {2, 142, 1}} {
		if got, e := salvage.Times(c.a, c.b); got != c.want || e != api.OK {
			t.Errorf("Times(%d, %d) = %d, %d, want %d", c.a, c.b, got, e, c.want)
		}
	}
}

func TestP3TimesOfAllNumbers(t *testing.T) {
	for a := range 256 {
		for b := range 256 {
			if got, e := salvage.Times(a, b); got != slowTimes(a, b) || e != api.OK {
				t.Fatalf("Times(%d, %d) = %d, %d, want %d", a, b, got, e, slowTimes(a, b))
			}
		}
	}
}

func TestP3TimesRefuses(t *testing.T) {
	for _, wrong := range outside {
		for _, other := range append([]int{0, 1, 255}, outside...) {
			if got, e := salvage.Times(wrong, other); got != 0 || e != api.ErrArg {
				t.Errorf("Times(%d, %d) = %d, %d, want 0, ErrArg", wrong, other, got, e)
			}
			if got, e := salvage.Times(other, wrong); got != 0 || e != api.ErrArg {
				t.Errorf("Times(%d, %d) = %d, %d, want 0, ErrArg", other, wrong, got, e)
			}
		}
	}
}

func TestP3InverseOfAllNumbers(t *testing.T) {
	for _, c := range []struct{ a, want int }{{1, 1}, {2, 142}, {3, 244}} {
		if got, e := salvage.Inverse(c.a); got != c.want || e != api.OK {
			t.Errorf("Inverse(%d) = %d, %d, want %d", c.a, got, e, c.want)
		}
	}
	for a := 1; a <= 255; a++ {
		if got, e := salvage.Inverse(a); got != slowInverse(a) || e != api.OK {
			t.Errorf("Inverse(%d) = %d, %d, want %d", a, got, e, slowInverse(a))
		}
	}
}

func TestP3InverseRefuses(t *testing.T) {
	for _, wrong := range append([]int{0}, outside...) {
		if got, e := salvage.Inverse(wrong); got != 0 || e != api.ErrArg {
			t.Errorf("Inverse(%d) = %d, %d, want 0, ErrArg", wrong, got, e)
		}
	}
}
