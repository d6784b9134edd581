package sum

import "testing"

func TestOf(t *testing.T) {
	for _, c := range []struct{ s, want string }{
		{"", "\x01\x00\x00\x00\x01\x00\x00\x00"},
		{"a", "\xf1\xbc\x00\x00\x59\x10\x01\x00"},
	} {
		if got := Of(c.s); got != c.want {
			t.Errorf("Of(%q) = %q, want %q", c.s, got, c.want)
		}
	}
}
