package salvage_test

import (
	"fmt"
	"math/rand"
	"slices"
	"strings"
	"testing"

	"salvage/api"
	"salvage/salvage"
)

func newReader(t *testing.T) *salvage.Reader {
	t.Helper()
	x := salvage.NewReader()
	if x == nil {
		t.Fatal("NewReader() = nil")
	}
	return x
}

// gives gives a piece, and holds the answer.
func gives(t *testing.T, x *salvage.Reader, name, piece string, want api.Errno) {
	t.Helper()
	if e := x.Give(name, piece); e != want {
		t.Errorf("Give of %d bytes = %d, want %d", len(piece), e, want)
	}
}

// closesReader closes a reader, and holds the answer, and that it is closed from then on.
func closesReader(t *testing.T, what string, x *salvage.Reader, tree []api.File, e api.Errno, n int) {
	t.Helper()
	if got, f, m := x.Close(); !slices.Equal(got, tree) || f != e || m != n {
		t.Errorf("%s: Close of a reader = %q, %d, %d, want %q, %d, %d", what, got, f, m, tree, e, n)
	}
	for range 2 {
		for _, piece := range []string{"", "x", long[:20000], long[:20001], long} {
			if e := x.Give("v00", piece); e != api.ErrClosed {
				t.Errorf("%s: Give of %d bytes behind Close = %d, want ErrClosed", what, len(piece), e)
			}
		}
		if got, e, n := x.Close(); len(got) != 0 || e != api.ErrClosed || n != 0 {
			t.Errorf("%s: Close once more = %q, %d, %d, want ErrClosed", what, got, e, n)
		}
	}
}

// reads gives these pieces, and holds the answer.
func reads(t *testing.T, what string, pieces, tree []api.File, e api.Errno, n int) {
	t.Helper()
	x := newReader(t)
	for _, p := range pieces {
		gives(t, x, p.Name, p.Data, api.OK)
	}
	closesReader(t, what, x, tree, e, n)
}

// joined tells the files that these pieces make.
func joined(pieces []api.File) []api.File {
	var files []api.File
	for _, p := range pieces {
		i := slices.IndexFunc(files, func(f api.File) bool { return f.Name == p.Name })
		if i < 0 {
			files = append(files, p)
		} else {
			files[i].Data += p.Data
		}
	}
	return files
}

// readsJoined holds what is read of pieces to the slow reference and to Unpack of the files that they make.
func readsJoined(t *testing.T, what string, pieces []api.File) api.Errno {
	t.Helper()
	files := joined(pieces)
	tree, e, n := salvage.Unpack(files)
	reads(t, what, pieces, tree, e, n)
	x := slowFind(files)
	if x.e != api.OK {
		reads(t, what, pieces, nil, x.e, x.stripe)
	} else if tree, place, ok := slowTree(x.bytes); ok {
		reads(t, what, pieces, tree, api.OK, 0)
	} else {
		reads(t, what, pieces, nil, api.ErrTree, place)
	}
	return e
}

func TestP10ReaderOfWholeVolumes(t *testing.T) {
	for what, tree := range edgeTrees() {
		for _, c := range [][3]int{{1, 0, 64}, {1, 1, 64}, {3, 2, 24}, {6, 6, 64}, {12, 0, 8}} {
			l := packed(t, tree, c[0], c[1], c[2])
			reads(t, what, l, tree, api.OK, 0)
			reads(t, what, l[c[1]:], tree, api.OK, 0)
			slices.Reverse(l)
			reads(t, what, l[c[1]:], tree, api.OK, 0)
		}
	}
}

func TestP10ReaderOfNothing(t *testing.T) {
	reads(t, "nothing was given", nil, nil, api.ErrManifest, 0)
	reads(t, "pieces of no bytes", named("v00", "", "x", "v00", "v01"), nil, api.ErrManifest, 0)
}

// Close answers each error that Unpack does, with its number, and the reader is closed all the same.
func TestP10ReaderAnswersWhatUnpackDoes(t *testing.T) {
	l := packed(t, someTree(), 2, 1, 8)
	reads(t, "one volume", l[1:2], nil, api.ErrFew, 0)
	lacking := with(l[:2], 1, turned(l[1].Data, frameAt(7, 8)))
	reads(t, "a stripe lacks", lacking, nil, api.ErrFew, 7)
	reads(t, "no manifest", []api.File{file("v00", "no manifest")}, nil, api.ErrManifest, 0)
	reads(t, "another key", alone("\x00", 1, 0, 1, 1, 1, slowKey("\x01", 1, 0, 8)), nil, api.ErrStream, 0)
	reads(t, "no tree", slowVolumes("\x01\x01a\x00\x00x", 1, 1, 8), nil, api.ErrTree, 5)
	reads(t, "no bytes", slowVolumes("", 3, 1, 8), nil, api.ErrTree, 0)
	for what, files := range someFiles() {
		readsJoined(t, what, files)
	}
}

func TestP10NamesThatAreNoVolumes(t *testing.T) {
	tree := someTree()
	l := packed(t, tree, 2, 1, 64)
	names := []string{"", "x", "v", "v0", "v000", "v00 ", " v00", "V00", "v12", "v03", "v99", "v0\x00", "v00\x00", "v/00", "\xff"}
	for _, name := range names {
		for _, data := range []string{"", "some data", l[0].Data} {
			other := file(name, data)
			reads(t, fmt.Sprintf("%q ahead", name), slices.Concat([]api.File{other}, l), tree, api.OK, 0)
			reads(t, fmt.Sprintf("%q behind", name), slices.Concat(l, []api.File{other}), tree, api.OK, 0)
			reads(t, fmt.Sprintf("%q between", name), []api.File{l[0], other, file("v02", l[2].Data[:50]), other, file("v02", l[2].Data[50:])}, tree, api.OK, 0)
		}
		reads(t, fmt.Sprintf("a volume called %q", name), []api.File{file(name, l[0].Data), l[1]}, nil, api.ErrFew, 0)
	}
}

// A name that comes again later is the same file: nothing of the pieces between goes into it.
func TestP10NamesThatComeAgain(t *testing.T) {
	tree := someTree()
	l := packed(t, tree, 2, 1, 64)
	half := func(i int) (string, string) { return l[i].Data[:200], l[i].Data[200:] }
	first0, last0 := half(0)
	first2, last2 := half(2)
	for _, pieces := range [][]api.File{
		{file("v00", first0), file("v02", first2), file("v00", last0), file("v02", last2)},
		{file("v02", first2), file("v00", first0), file("v00", last0), file("", "v00"), file("v02", last2), file("v02", "")},
		{file("v00", ""), file("v02", first2), file("v00", first0), file("v02", last2), file("v00", last0)},
	} {
		reads(t, "halves", pieces, tree, api.OK, 0)
	}
	reads(t, "the wrong order", []api.File{file("v00", last0), file("v02", last2), file("v00", first0), file("v02", first2)}, nil, api.ErrManifest, 0)
	// Of a list the first of a name would count; here the second goes on the end of it, so that a volume given twice has its manifests and frames still.
	reads(t, "each twice", slices.Concat(l, l), tree, api.OK, 0)
	reads(t, "something ahead", []api.File{file("v00", "?"), l[0], l[1]}, nil, api.ErrFew, 0)
}

// filler tells so many bytes in pieces under several names that are no volumes'.
func filler(t *testing.T, x *salvage.Reader, count int) {
	t.Helper()
	for i, name := range []string{"x", "", "v12", "a/b"} {
		n := count / (4 - i)
		gives(t, x, name, strings.Repeat("x", n), api.OK)
		count -= n
	}
}

func lengthOf(files []api.File) int {
	length := 0
	for _, f := range files {
		length += len(f.Data)
	}
	return length
}

func TestP10ReaderOfJustMaxGiven(t *testing.T) {
	tree := someTree()
	l := packed(t, tree, 2, 1, 8)
	x := newReader(t)
	filler(t, x, 20000-lengthOf(l))
	for _, f := range l {
		gives(t, x, f.Name, f.Data, api.OK)
	}
	for _, name := range []string{"v00", "v03", "x", "", "new"} {
		gives(t, x, name, "y", api.ErrLong)
		gives(t, x, name, strings.Repeat("y", 20000), api.ErrLong)
		gives(t, x, name, "", api.OK)
	}
	closesReader(t, "just MaxGiven over several names", x, tree, api.OK, 0)

	for _, name := range []string{"", "x", "v00"} {
		x = newReader(t)
		gives(t, x, name, strings.Repeat("x", 20001), api.ErrLong)
		gives(t, x, name, strings.Repeat("x", 20000), api.OK)
		gives(t, x, name, "x", api.ErrLong)
		gives(t, x, "v01", "x", api.ErrLong)
		closesReader(t, "just MaxGiven under one name", x, nil, api.ErrManifest, 0)
	}
}

// What is too long adds nothing, neither to the file nor to the count, and what is shorter still goes on the end.
func TestP10ReaderOfTooMuch(t *testing.T) {
	tree := someTree()
	l := packed(t, tree, 2, 0, 8)
	x := newReader(t)
	gives(t, x, "v00", long, api.ErrLong)
	gives(t, x, "v00", l[0].Data[:100], api.OK)
	gives(t, x, "v00", long[:19901], api.ErrLong)
	gives(t, x, "v01", long[:19901], api.ErrLong)
	filler(t, x, 20000-lengthOf(l))
	left := lengthOf(l) - 100
	gives(t, x, "v00", long[:left+1], api.ErrLong)
	gives(t, x, "v00", l[0].Data[100:], api.OK)
	gives(t, x, "v01", l[1].Data+"y", api.ErrLong)
	gives(t, x, "v01", l[1].Data[:100], api.OK)
	gives(t, x, "v01", long, api.ErrLong)
	gives(t, x, "v01", l[1].Data[100:]+"y", api.ErrLong)
	gives(t, x, "v01", l[1].Data[100:], api.OK)
	gives(t, x, "v01", "y", api.ErrLong)
	closesReader(t, "too much between", x, tree, api.OK, 0)
}

func TestP10NamesDoNotCount(t *testing.T) {
	tree := someTree()
	l := packed(t, tree, 1, 0, 64)
	x := newReader(t)
	gives(t, x, long, "x", api.OK)
	gives(t, x, long[:20001], "", api.OK)
	for i := range 3000 {
		gives(t, x, fmt.Sprint("a name of some length ", i), "", api.OK)
	}
	gives(t, x, long, strings.Repeat("x", 20000-1-lengthOf(l)), api.OK)
	gives(t, x, "v00", l[0].Data, api.OK)
	gives(t, x, "", "x", api.ErrLong)
	closesReader(t, "long names", x, tree, api.OK, 0)
}

// Each reader has files of its own, whichever is given to or closed between.
func TestP10ReadersSideBySide(t *testing.T) {
	trees := [][]api.File{someTree(), nil, {file("a", "xy")}, someTree()[:1]}
	volumes, readers := make([][]api.File, len(trees)), make([]*salvage.Reader, len(trees))
	for i, tree := range trees {
		volumes[i], readers[i] = packed(t, tree, 2, 1, 16), newReader(t)
	}
	for part := range 3 {
		for i := range trees {
			for _, f := range volumes[i] {
				begin, end := len(f.Data)*part/3, len(f.Data)*(part+1)/3
				gives(t, readers[i], f.Name, f.Data[begin:end], api.OK)
			}
		}
	}
	for i, tree := range trees {
		closesReader(t, "one of several", readers[i], tree, api.OK, 0)
		for _, x := range readers[i+1:] {
			gives(t, x, "x", "more", api.OK)
		}
	}
}

// mixed tells pieces of these files, those of each file in their order, but now of this file and now of that one.
func mixed(r *rand.Rand, files []api.File, longest int) []api.File {
	var pieces []api.File
	left := slices.Clone(files)
	for len(left) > 0 {
		i := r.Intn(len(left))
		n := r.Intn(min(longest, len(left[i].Data)) + 1)
		pieces = append(pieces, file(left[i].Name, left[i].Data[:n]))
		if left[i].Data = left[i].Data[n:]; left[i].Data == "" {
			left = slices.Delete(left, i, i+1)
		}
	}
	return pieces
}

func TestP13EachPlaceToCutAVolume(t *testing.T) {
	tree := []api.File{file("a", "data")}
	l := packed(t, tree, 1, 1, 8)
	for i, f := range l {
		for n := range len(f.Data) + 1 {
			reads(t, fmt.Sprint("cut at ", n), []api.File{file(f.Name, f.Data[:n]), file(l[1-i].Name, "?"), file(f.Name, f.Data[n:])}, tree, api.OK, 0)
		}
		reads(t, "byte by byte", mixed(rand.New(rand.NewSource(131)), l[i:i+1], 1), tree, api.OK, 0)
	}
}

func TestP13WholeVolumesPieceByPiece(t *testing.T) {
	r := rand.New(rand.NewSource(132))
	for range 40 {
		tree, k, m, size := randomTree(r), 1+r.Intn(4), r.Intn(4), 32+8*r.Intn(5)
		files := packed(t, tree, k, m, size)
		r.Shuffle(len(files), func(i, j int) { files[i], files[j] = files[j], files[i] })
		for _, longest := range []int{1, 30, 3000} {
			reads(t, "whole", mixed(r, files, longest), tree, api.OK, 0)
			reads(t, "some lost", mixed(r, files[m:], longest), tree, api.OK, 0)
		}
	}
}

// Whatever is given: what is read of the pieces is what Unpack reads of the files.
func TestP13DamagedVolumesPieceByPiece(t *testing.T) {
	r := rand.New(rand.NewSource(133))
	counts := make(map[api.Errno]int)
	for range 800 {
		files := joined(forged(r))
		for range r.Intn(4) {
			files = joined(spoil(r, files))
		}
		if r.Intn(2) == 0 {
			files = append(files, file("x", "other"))
		}
		if lengthOf(files) > 20000 {
			continue
		}
		e := readsJoined(t, "in pieces", mixed(r, files, 1+r.Intn(400)))
		if _, want, _ := salvage.Unpack(files); e != want {
			t.Errorf("in pieces %d, whole %d", e, want)
		}
		counts[e]++
	}
	for _, e := range []api.Errno{api.OK, api.ErrManifest, api.ErrFew, api.ErrStream, api.ErrTree} {
		if counts[e] < 10 {
			t.Errorf("too few of a kind: %v", counts)
		}
	}
}

func TestP13WrittenAndReadPieceByPiece(t *testing.T) {
	r := rand.New(rand.NewSource(134))
	for range 30 {
		tree := randomTree(r)
		stream, _ := salvage.Flat(tree)
		x := newWriter(t, 2, 2, 64)
		for _, p := range cutAnyhow(r, stream, 40) {
			writes(t, x, p, api.OK)
		}
		l, _ := x.Close()
		reads(t, "as it was written", mixed(r, l, 200), tree, api.OK, 0)
	}
}

func TestP1GivesOfAnyNumber(t *testing.T) {
	x := newReader(t)
	for i := range 100000 {
		gives(t, x, "v00", "", api.OK)
		gives(t, x, "v01", long, api.ErrLong)
		gives(t, x, fmt.Sprint(i), "", api.OK)
	}
	l := packed(t, someTree(), 1, 0, 8)
	for i := range len(l[0].Data) {
		gives(t, x, "v00", l[0].Data[i:i+1], api.OK)
	}
	closesReader(t, "many pieces", x, someTree(), api.OK, 0)
}
