// Package salvage: a tree of files on several volumes, of which some may be lost: see DOC.md.
package salvage

import (
	"salvage/api"
	"salvage/archive"
	"salvage/code"
	"salvage/field"
	"salvage/pieces"
	"salvage/raw"
	"salvage/sum"
	"salvage/trees"
)

// Sum tells the sum of bytes (P3).
func Sum(s string) string { return sum.Of(s) }

// Times tells a product of numbers of eight bits (P3).
func Times(a, b int) (int, api.Errno) {
	if !isNumber(a) || !isNumber(b) {
		return 0, api.ErrArg
	}
	return int(field.Times(byte(a), byte(b))), api.OK
}

// Inverse tells an inverse (P3).
func Inverse(a int) (int, api.Errno) {
	if !isNumber(a) || a == 0 {
		return 0, api.ErrArg
	}
	return int(field.Inverse(byte(a))), api.OK
}

func isNumber(a int) bool { return a >= 0 && a <= 255 }

// Encode tells the further blocks of a code (P4).
func Encode(m int, data []string) ([]string, api.Errno) {
	k := len(data)
	// Asked ahead of numbering, so that a list of any length is not copied only to be refused.
	if k == 0 || !code.Fits(k, m, len(data[0])) {
		return nil, api.ErrArg
	}
	have := numbered(data)
	if !code.Sound(k, m, have) {
		return nil, api.ErrArg
	}
	var plans code.Plans
	return plans.Complete(k, m, have)[k:], api.OK
}

func numbered(data []string) []api.Block {
	blocks := make([]api.Block, len(data))
	for i, d := range data {
		blocks[i] = api.Block{Number: i, Data: d}
	}
	return blocks
}

// Rebuild tells all blocks of a code (P4).
func Rebuild(k, m int, have []api.Block) ([]string, api.Errno) {
	if !code.Sound(k, m, have) {
		return nil, api.ErrArg
	}
	if len(have) < k {
		return nil, api.ErrFew
	}
	var plans code.Plans
	return plans.Complete(k, m, have), api.OK
}

// Flat tells a tree's stream (P5).
func Flat(tree []api.File) (string, api.Errno) {
	if !trees.Is(tree) {
		return "", api.ErrTree
	}
	return trees.Stream(tree), api.OK
}

// Tree tells the tree whose stream it is (P5).
func Tree(stream string) (tree []api.File, e api.Errno, place int) {
	defer func() {
		if fault, ok := raw.Caught(recover()); ok {
			tree, e, place = nil, api.ErrTree, fault.Place
		}
	}()
	return trees.Read(stream), api.OK, 0
}

// Pack archives a tree (P6).
func Pack(tree []api.File, k, m, size int) ([]api.File, api.Errno) {
	if !code.Fits(k, m, size) {
		return nil, api.ErrArg
	}
	stream, e := Flat(tree)
	if e != api.OK {
		return nil, e
	}
	return archive.Volumes(stream, k, m, size), api.OK
}

// Unpack gets a tree back (P7).
func Unpack(files []api.File) ([]api.File, api.Errno, int) {
	found, ok := archive.Find(files)
	if !ok {
		return nil, api.ErrManifest, 0
	}
	stream, e, stripe := found.Bytes()
	if e != api.OK {
		return nil, e, stripe
	}
	return Tree(stream)
}

// Verify tells which blocks are good (P8).
func Verify(files []api.File) ([]string, api.Errno) {
	found, ok := archive.Find(files)
	if !ok {
		return nil, api.ErrManifest
	}
	return found.Marks(), api.OK
}

// Repair makes the volumes anew (P9).
func Repair(files []api.File) ([]api.File, api.Errno, int) {
	found, ok := archive.Find(files)
	if !ok {
		return nil, api.ErrManifest, 0
	}
	bytes, e, stripe := found.Bytes()
	if e != api.OK {
		return nil, e, stripe
	}
	return found.Repaired(bytes, files), api.OK, 0
}

// Writer archives bytes that come piece by piece.
type Writer struct {
	k, m, size int
	written    []byte
	closed     bool
}

// NewWriter makes a writer (P10).
func NewWriter(k, m, size int) (*Writer, api.Errno) {
	if !code.Fits(k, m, size) {
		return nil, api.ErrArg
	}
	return &Writer{k: k, m: m, size: size}, api.OK
}

// Write takes a piece (P10).
func (x *Writer) Write(s string) api.Errno {
	if x.closed {
		return api.ErrClosed
	}
	if len(s) > api.MaxStream-len(x.written) {
		return api.ErrLong
	}
	x.written = append(x.written, s...)
	return api.OK
}

// Close tells the volumes (P10).
func (x *Writer) Close() ([]api.File, api.Errno) {
	if x.closed {
		return nil, api.ErrClosed
	}
	volumes := archive.Volumes(string(x.written), x.k, x.m, x.size)
	// What was written is of no use any more, so it is not kept.
	*x = Writer{closed: true}
	return volumes, api.OK
}

// Reader reads volumes that come piece by piece.
type Reader struct {
	files  pieces.Files
	given  int // bytes of all pieces
	closed bool
}

// NewReader makes a reader (P10).
func NewReader() *Reader { return &Reader{} }

// Give takes a piece of a file (P10).
func (x *Reader) Give(name, piece string) api.Errno {
	if x.closed {
		return api.ErrClosed
	}
	if len(piece) > api.MaxGiven-x.given {
		return api.ErrLong
	}
	x.files.Add(name, piece)
	x.given += len(piece)
	return api.OK
}

// Close tells the tree (P10).
func (x *Reader) Close() ([]api.File, api.Errno, int) {
	if x.closed {
		return nil, api.ErrClosed, 0
	}
	files := x.files.List()
	// What was given is of no use any more, so it is not kept.
	*x = Reader{closed: true}
	return Unpack(files)
}
