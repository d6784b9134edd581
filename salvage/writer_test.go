package salvage_test

import (
	"math/rand"
	"slices"
	"strings"
	"testing"

	"salvage/api"
	"salvage/salvage"
)

// long is longer than a writer or a reader takes; pieces of it are cut off where they are needed.
var long = strings.Repeat("x", 1<<24)

func newWriter(t *testing.T, k, m, size int) *salvage.Writer {
	t.Helper()
	x, e := salvage.NewWriter(k, m, size)
	if x == nil || e != api.OK {
		t.Fatalf("NewWriter(%d, %d, %d) = %v, %d, want a writer", k, m, size, x, e)
	}
	return x
}

// writes writes a piece, and holds the answer.
func writes(t *testing.T, x *salvage.Writer, piece string, want api.Errno) {
	t.Helper()
	if e := x.Write(piece); e != want {
		t.Errorf("Write of %d bytes = %d, want %d", len(piece), e, want)
	}
}

// closesWriter closes a writer, and holds the answer to the volumes of these bytes and to being closed from then on.
func closesWriter(t *testing.T, what string, x *salvage.Writer, bytes string, k, m, size int) {
	t.Helper()
	want := slowVolumes(bytes, k, m, size)
	if l, e := x.Close(); !slices.Equal(l, want) || e != api.OK {
		t.Errorf("%s: Close of a writer of (%d, %d, %d) = %d, %q, want %q", what, k, m, size, e, l, want)
	}
	isClosedWriter(t, what, x)
}

func isClosedWriter(t *testing.T, what string, x *salvage.Writer) {
	t.Helper()
	for range 2 {
		for _, piece := range []string{"", "x", long[:2000], long[:2001], long} {
			if e := x.Write(piece); e != api.ErrClosed {
				t.Errorf("%s: Write of %d bytes behind Close = %d, want ErrClosed", what, len(piece), e)
			}
		}
		if l, e := x.Close(); len(l) != 0 || e != api.ErrClosed {
			t.Errorf("%s: Close once more = %q, %d, want ErrClosed", what, l, e)
		}
	}
}

// randomBytes tells bytes of all values.
func randomBytes(r *rand.Rand, length int) string {
	b := make([]byte, length)
	r.Read(b)
	return string(b)
}

func TestP10WriterOfATree(t *testing.T) {
	tree := someTree()
	stream, _ := salvage.Flat(tree)
	x := newWriter(t, 3, 2, 16)
	writes(t, x, stream[:10], api.OK)
	writes(t, x, stream[10:], api.OK)
	l, e := x.Close()
	if want := packed(t, tree, 3, 2, 16); !slices.Equal(l, want) || e != api.OK {
		t.Errorf("Close = %q, %d, want %q", l, e, want)
	}
	unpacks(t, "two are lost", l[2:], tree, api.OK, 0)
}

func TestP10WriterOfAllCodes(t *testing.T) {
	r := rand.New(rand.NewSource(101))
	for k := 1; k <= 12; k++ {
		for m := 0; k+m <= 12; m++ {
			size := 8 + 8*r.Intn(8)
			bytes := randomBytes(r, r.Intn(300))
			x := newWriter(t, k, m, size)
			writes(t, x, bytes, api.OK)
			closesWriter(t, "any bytes", x, bytes, k, m, size)
		}
	}
}

func TestP10WriterOfAllSizes(t *testing.T) {
	r := rand.New(rand.NewSource(102))
	for size := 8; size <= 64; size += 8 {
		for _, length := range []int{1, 2*size - 1, 2 * size, 2*size + 1} {
			bytes := randomBytes(r, length)
			x := newWriter(t, 2, 1, size)
			writes(t, x, bytes, api.OK)
			closesWriter(t, "around the end of a stripe", x, bytes, 2, 1, size)
		}
	}
}

func TestP10WriterOfNoBytes(t *testing.T) {
	for _, c := range [][3]int{{1, 0, 8}, {1, 1, 8}, {12, 0, 64}, {1, 11, 64}, {5, 4, 24}} {
		x := newWriter(t, c[0], c[1], c[2])
		l, e := x.Close()
		if len(l) != c[0]+c[1] || e != api.OK {
			t.Errorf("Close of %v behind nothing = %q, %d", c, l, e)
		}
		for i, f := range l {
			if f.Name != slowName(i) || len(f.Data) != 50 || f.Data[:25] != f.Data[25:] {
				t.Errorf("%v: of no bytes the volume %d is %q, want two manifests", c, i, f)
			}
		}
		x = newWriter(t, c[0], c[1], c[2])
		closesWriter(t, "nothing was written", x, "", c[0], c[1], c[2])
		x = newWriter(t, c[0], c[1], c[2])
		writes(t, x, "", api.OK)
		writes(t, x, "", api.OK)
		closesWriter(t, "pieces of no bytes", x, "", c[0], c[1], c[2])
	}
}

// A stream has at least one byte, so of no bytes nothing is told but where it ends.
func TestP10WhatAWriterTellsIsRead(t *testing.T) {
	for bytes, place := range map[string]int{"": 0, "no stream": 0, "\x01\x01a\x00\x00x": 5, "\x01\x02a": 3} {
		x := newWriter(t, 2, 2, 8)
		writes(t, x, bytes, api.OK)
		l, _ := x.Close()
		unpacks(t, "bytes of no tree", l[2:], nil, api.ErrTree, place)
		repairs(t, "bytes of no tree", l[2:], l, api.OK, 0)
	}
}

func TestP10WriterOfJustMaxStream(t *testing.T) {
	bytes := randomBytes(rand.New(rand.NewSource(103)), 2000)
	for _, cuts := range [][]int{{0, 2000}, {0, 1999, 2000}, {0, 1, 2000}, {0, 0, 1000, 1000, 2000, 2000}} {
		for _, c := range [][3]int{{1, 0, 8}, {1, 0, 64}, {7, 5, 40}} {
			x := newWriter(t, c[0], c[1], c[2])
			for i, at := range cuts[1:] {
				writes(t, x, bytes[cuts[i]:at], api.OK)
			}
			writes(t, x, "y", api.ErrLong)
			writes(t, x, "", api.OK)
			writes(t, x, bytes, api.ErrLong)
			closesWriter(t, "just MaxStream", x, bytes, c[0], c[1], c[2])
		}
	}
}

// What is too long adds nothing, and what is shorter still goes on the end.
func TestP10WriterOfTooMuch(t *testing.T) {
	x := newWriter(t, 3, 1, 64)
	writes(t, x, long, api.ErrLong)
	writes(t, x, long[:2001], api.ErrLong)
	closesWriter(t, "too much alone", x, "", 3, 1, 64)

	bytes := randomBytes(rand.New(rand.NewSource(104)), 2000)
	x = newWriter(t, 3, 1, 64)
	writes(t, x, bytes[:1000], api.OK)
	writes(t, x, long[:1001], api.ErrLong)
	writes(t, x, bytes[1000:1500], api.OK)
	writes(t, x, long, api.ErrLong)
	writes(t, x, long[:501], api.ErrLong)
	writes(t, x, "", api.OK)
	writes(t, x, bytes[1500:1999], api.OK)
	writes(t, x, "yz", api.ErrLong)
	writes(t, x, bytes[1999:], api.OK)
	writes(t, x, "y", api.ErrLong)
	closesWriter(t, "too much between", x, bytes, 3, 1, 64)

	x = newWriter(t, 1, 1, 8)
	writes(t, x, "some", api.OK)
	writes(t, x, long[:1997], api.ErrLong)
	closesWriter(t, "too much at the end", x, "some", 1, 1, 8)
}

func TestP10NewWriterRefuses(t *testing.T) {
	for _, c := range wrongPackings() {
		if x, e := salvage.NewWriter(c[0], c[1], c[2]); x != nil || e != api.ErrArg {
			t.Errorf("NewWriter(%v) = %v, %d, want nil and ErrArg", c, x, e)
		}
	}
}

// A writer that was full answers ErrClosed too, not ErrLong.
func TestP10ClosedWriters(t *testing.T) {
	for _, bytes := range []string{"", "x", strings.Repeat("x", 2000)} {
		x := newWriter(t, 2, 1, 8)
		writes(t, x, bytes, api.OK)
		x.Close()
		isClosedWriter(t, "behind Close", x)
	}
}

// Each writer has bytes of its own, whichever is written to or closed between.
func TestP10WritersSideBySide(t *testing.T) {
	r := rand.New(rand.NewSource(105))
	codes := [][3]int{{1, 0, 8}, {2, 1, 8}, {2, 1, 8}, {4, 4, 16}, {1, 0, 8}}
	writers, bytes := make([]*salvage.Writer, len(codes)), make([]string, len(codes))
	for i, c := range codes {
		writers[i] = newWriter(t, c[0], c[1], c[2])
	}
	for range 300 {
		i, piece := r.Intn(len(codes)), randomBytes(r, r.Intn(9))
		writes(t, writers[i], piece, api.OK)
		bytes[i] += piece
	}
	for i, c := range codes {
		closesWriter(t, "one of several", writers[i], bytes[i], c[0], c[1], c[2])
		for j := i + 1; j < len(codes); j++ {
			writes(t, writers[j], "more", api.OK)
			bytes[j] += "more"
		}
	}
}

// writesPieces holds the volumes of these pieces to those of the bytes that they are.
func writesPieces(t *testing.T, pieces []string, k, m, size int) {
	t.Helper()
	x := newWriter(t, k, m, size)
	for _, p := range pieces {
		writes(t, x, p, api.OK)
	}
	closesWriter(t, "pieces", x, strings.Join(pieces, ""), k, m, size)
}

// cutBy cuts bytes behind each place of which the set has the bit.
func cutBy(bytes string, set int) []string {
	var pieces []string
	begin := 0
	for i := range len(bytes) {
		if set>>i&1 == 1 {
			pieces, begin = append(pieces, bytes[begin:i+1]), i+1
		}
	}
	return append(pieces, bytes[begin:])
}

// cutAnyhow cuts bytes into pieces of many lengths, some of them of none.
func cutAnyhow(r *rand.Rand, bytes string, longest int) []string {
	var pieces []string
	for bytes != "" {
		n := r.Intn(min(longest, len(bytes)) + 1)
		pieces, bytes = append(pieces, bytes[:n]), bytes[n:]
	}
	return pieces
}

func TestP13EachWayToCutAFewBytes(t *testing.T) {
	const bytes = "\x01\x01a\x04\x00data"
	for set := range 1 << len(bytes) {
		writesPieces(t, cutBy(bytes, set), 1, 1, 8)
	}
}

func TestP13ManyWaysToCutManyBytes(t *testing.T) {
	r := rand.New(rand.NewSource(106))
	for _, length := range []int{1, 8, 63, 64, 65, 500, 1999, 2000} {
		bytes := randomBytes(r, length)
		for _, longest := range []int{1, 2, 7, 64, 100, 1000, 2000} {
			k := 1 + r.Intn(6)
			writesPieces(t, cutAnyhow(r, bytes, longest), k, r.Intn(7), 8+8*r.Intn(8))
		}
	}
}

func TestP13TreesWrittenPieceByPiece(t *testing.T) {
	r := rand.New(rand.NewSource(107))
	for range 60 {
		tree, k, m, size := randomTree(r), 1+r.Intn(6), r.Intn(7), 8+8*r.Intn(8)
		stream, _ := salvage.Flat(tree)
		x := newWriter(t, k, m, size)
		for _, p := range cutAnyhow(r, stream, 1+r.Intn(50)) {
			writes(t, x, p, api.OK)
		}
		if l, e := x.Close(); !slices.Equal(l, packed(t, tree, k, m, size)) || e != api.OK {
			t.Errorf("what was written of %q is not what Pack makes of it: %q, %d", tree, l, e)
		}
	}
}

func TestP1WritesOfAnyNumber(t *testing.T) {
	x := newWriter(t, 1, 0, 8)
	for range 200000 {
		writes(t, x, "", api.OK)
		writes(t, x, long, api.ErrLong)
	}
	closesWriter(t, "many pieces", x, "", 1, 0, 8)
}
