package sum

import "testing"

func TestOf(t *testing.T) {
	for _, c := range []struct{ s, want string }{
		{"", "\x01\x00\x00\x00\x01\x00\x00\x00"},
		{"a", "\xf1\xbc\x00\x00\x59\x10\x01\x00"},
	} {
		if got := Of(c.s); got != c.want {
			t.Errorf("Of(%q) = %q, want %q", c.s, got, c.want)
		}
	}
}

func TestLowestByteFirst(t *testing.T) {
	if got := fourBytes(0x7a6b5c4d); got != "\x4d\x5c\x6b\x7a" {
		t.Errorf("fourBytes = %q", got)
	}
}
