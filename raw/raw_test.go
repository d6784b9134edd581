package raw

import "testing"

func TestBytesHaveTheLowestFirst(t *testing.T) {
	for _, c := range []struct {
		n, count int
		want     string
	}{
		{0x7a6b5c4d, 4, "\x4d\x5c\x6b\x7a"}, {2000, 3, "\xd0\x07\x00"}, {2000, 2, "\xd0\x07"}, {200, 1, "\xc8"}, {0, 2, "\x00\x00"}, {7, 0, ""},
	} {
		if got := Bytes(c.n, c.count); got != c.want {
			t.Errorf("Bytes(%d, %d) = %q, want %q", c.n, c.count, got, c.want)
		}
	}
}

// faultOf tells where a reading gives up, and whether it does.
func faultOf(read func()) (fault Fault, gaveUp bool) {
	defer func() { fault, gaveUp = Caught(recover()) }()
	read()
	return
}

func TestReaderReads(t *testing.T) {
	r := NewReader("\x03abc\xe8\x03\x00")
	if got := r.Text(r.Number(1, 3, 3)); got != "abc" {
		t.Errorf("the text is %q", got)
	}
	if got := r.Place(); got != 4 {
		t.Errorf("the place is %d, want 4", got)
	}
	if got := r.Number(3, 0, 1000); got != 1000 {
		t.Errorf("the number is %d, want 1000", got)
	}
	r.End()
	if got := r.Text(0); got != "" {
		t.Errorf("behind the end there is %q", got)
	}
}

func TestReaderFromAPlaceOn(t *testing.T) {
	for place, want := range []string{"abc", "bc", "c", ""} {
		r := NewReaderAt("abc", place)
		r.Expect(want)
		r.Expect("")
		r.End()
	}
	for _, place := range []int{-1, 4, int(^uint(0) >> 1), -int(^uint(0)>>1) - 1} {
		if fault, gaveUp := faultOf(func() { NewReaderAt("abc", place) }); !gaveUp || fault.Place != place {
			t.Errorf("from %d on: gave up %t at %d", place, gaveUp, fault.Place)
		}
	}
}

func TestReaderGivesUp(t *testing.T) {
	for _, c := range []struct {
		what  string
		read  func(r *Reader)
		place int
	}{
		{"a text behind the end", func(r *Reader) { r.Text(4) }, 5},
		{"a very long text", func(r *Reader) { r.Text(int(^uint(0) >> 1)) }, 5},
		{"a number behind the end", func(r *Reader) { r.Number(4, 0, 0) }, 5},
		{"a number below the least", func(r *Reader) { r.Number(1, 100, 200) }, 2},
		{"a number above the most", func(r *Reader) { r.Number(2, 0, 98+100*256) }, 2},
		{"another text", func(r *Reader) { r.Expect("cx") }, 2},
		{"a text that goes on", func(r *Reader) { r.Expect("cdef") }, 5},
		{"something behind", (*Reader).End, 2},
		{"a thing of its own", func(*Reader) { GiveUp(77) }, 77},
	} {
		r := NewReader("abcde")
		r.Text(2)
		if fault, gaveUp := faultOf(func() { c.read(r) }); !gaveUp || fault.Place != c.place {
			t.Errorf("%s: gave up %t at %d, want %d", c.what, gaveUp, fault.Place, c.place)
		}
	}
	if _, gaveUp := faultOf(func() { NewReader("abc").Number(2, 'a'+'b'<<8, 'a'+'b'<<8) }); gaveUp {
		t.Error("gave up where nothing was wrong")
	}
}

// What no reader threw must not be taken for a fault of the bytes.
func TestCaughtThrowsOn(t *testing.T) {
	defer func() {
		if recover() == nil {
			t.Error("a mistake was taken for a fault")
		}
	}()
	faultOf(func() { panic("a mistake") })
}
