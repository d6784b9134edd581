package raw

import "strings"

// Fault is what a reader gives up with: the place of the first byte of what is wrong.
type Fault struct {
	Place int
}

// Reader reads bytes from the front. Wherever something is wrong it panics with a Fault, so that what reads a thing of many parts need not ask after each of them.
type Reader struct {
	bytes string
	place int
}

// NewReader tells a reader of these bytes.
func NewReader(bytes string) *Reader { return &Reader{bytes: bytes} }

// NewReaderAt tells a reader of these bytes from a place on; if that is not among them or their end, it gives up.
func NewReaderAt(bytes string, place int) *Reader {
	if place < 0 || place > len(bytes) {
		GiveUp(place)
	}
	return &Reader{bytes: bytes, place: place}
}

// Place tells where the next thing begins.
func (x *Reader) Place() int { return x.place }

// Text reads so many bytes. If they end within, what is wrong begins where they end.
func (x *Reader) Text(count int) string {
	if count > len(x.bytes)-x.place {
		GiveUp(len(x.bytes))
	}
	begin := x.place
	x.place += count
	// Copied, so that no answer shares memory with what was handed in.
	return strings.Clone(x.bytes[begin:x.place])
}

// Number reads a number of so many bytes, the lowest first, which must be from least to most.
func (x *Reader) Number(count, least, most int) int {
	begin, n := x.place, 0
	for i, b := range []byte(x.Text(count)) {
		n |= int(b) << (8 * i)
	}
	if n < least || n > most {
		GiveUp(begin)
	}
	return n
}

// Expect reads this very text.
func (x *Reader) Expect(text string) {
	begin := x.place
	if x.Text(len(text)) != text {
		GiveUp(begin)
	}
}

// End sees to it that nothing is left.
func (x *Reader) End() {
	if x.place < len(x.bytes) {
		GiveUp(x.place)
	}
}

// GiveUp ends a reading at which the thing at this place is wrong.
func GiveUp(place int) { panic(Fault{Place: place}) }

// Caught tells of what recover answered whether a reader gave up, and with which fault.
func Caught(thrown any) (Fault, bool) {
	if thrown == nil {
		return Fault{}, false
	}
	// One value, not two: what no reader threw is a mistake of the program, and no fault of the bytes.
	return thrown.(Fault), true
}
