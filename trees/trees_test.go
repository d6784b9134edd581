package trees

import (
	"slices"
	"testing"

	"salvage/api"
	"salvage/raw"
)

func TestIsName(t *testing.T) {
	for _, name := range []string{"a", "z", "az", "a/z", "a/b/c/d/e/fg", "abcdefghijkl"} {
		if !isName(name) {
			t.Errorf("%q is a name", name)
		}
	}
	for _, name := range []string{"", "/", "//", "/a", "a/", "a//b", "A", "`", "{", "a`", "a{", "a.b", "a b", "a\x00", "a0", "é", "abcdefghijklm", "a/b/c/d/e/f/g"} {
		if isName(name) {
			t.Errorf("%q is no name", name)
		}
	}
}

func TestFollows(t *testing.T) {
	for _, c := range []struct {
		name, ahead string
		want        bool
	}{
		{"a", "", true}, {"b", "a", true}, {"ab", "a", true}, {"aa", "a/b", true}, {"a/c", "a/b", true}, {"b/a", "a/b", true},
		{"a", "a", false}, {"a", "b", false}, {"a", "aa", false}, {"a", "a/b", false}, {"a/b", "a", false}, {"a/b/c", "a", false}, {"a/b/c", "a/b", false}, {"a/b", "aa", false},
	} {
		if got := follows(c.name, c.ahead); got != c.want {
			t.Errorf("follows(%q, %q) = %t", c.name, c.ahead, got)
		}
	}
}

func TestReadIsTheInverseOfStream(t *testing.T) {
	tree := []api.File{{Name: "a/b", Data: "xy"}, {Name: "aa"}, {Name: "b", Data: "\x00\xff"}}
	stream := Stream(tree)
	if stream != "\x03\x03a/b\x02\x00xy\x02aa\x00\x00\x01b\x02\x00\x00\xff" {
		t.Errorf("the stream is %q", stream)
	}
	if got := Read(stream); !slices.Equal(got, tree) {
		t.Errorf("Read(%q) = %v", stream, got)
	}
}

func TestReadGivesUp(t *testing.T) {
	defer func() {
		if fault, ok := raw.Caught(recover()); !ok || fault.Place != 6 {
			t.Errorf("gave up %t at %d, want 6", ok, fault.Place)
		}
	}()
	Read("\x02\x01b\x00\x00\x01a")
}
