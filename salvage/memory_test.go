package salvage_test

import (
	"maps"
	"math/rand"
	"runtime"
	"slices"
	"strings"
	"sync"
	"testing"
	"time"
	"unsafe"

	"salvage/api"
	"salvage/salvage"
)

// withRoom tells a list of the same, with spare room behind it that holds marks, and the whole room.
func withRoom[T any](list []T, mark T) (short, whole []T) {
	whole = slices.Clone(list)
	for range 20 {
		whole = append(whole, mark)
	}
	whole = whole[:len(whole):len(whole)]
	return whole[:len(list)], whole
}

func TestP2EncodeLeavesWhatIsHandedIn(t *testing.T) {
	r := rand.New(rand.NewSource(9))
	for _, c := range []struct {
		m    int
		data []string
	}{
		{3, randomBlocks(r, 5, 24)},
		{0, randomBlocks(r, 2, 8)},
		{11, randomBlocks(r, 1, 64)},
		{9, randomBlocks(r, 5, 24)},
		{1, []string{"abcdefgh", "ab"}},
		{1, nil},
	} {
		data, whole := withRoom(c.data, "spare")
		before := slices.Clone(whole)
		salvage.Encode(c.m, data)
		if !slices.Equal(whole, before) {
			t.Errorf("Encode(%d, ..) wrote into its list or its spare room: %q, before %q", c.m, whole, before)
		}
	}
}

func TestP2RebuildLeavesWhatIsHandedIn(t *testing.T) {
	all := randomBlocks(rand.New(rand.NewSource(10)), 12, 16)
	for _, c := range []struct {
		k, m int
		have []api.Block
	}{
		{3, 2, chosen(all, 4, 0, 3)},
		{3, 2, chosen(all, 4, 1, 0, 3, 2)},
		{2, 0, chosen(all, 1, 0)},
		{3, 2, chosen(all, 4, 1)},
		{3, 2, chosen(all, 4, 1, 4)},
		{3, 2, nil},
	} {
		have, whole := withRoom(c.have, at(77, "spare"))
		before := slices.Clone(whole)
		salvage.Rebuild(c.k, c.m, have)
		if !slices.Equal(whole, before) {
			t.Errorf("Rebuild(%d, %d, ..) wrote into its list or its spare room: %#v, before %#v", c.k, c.m, whole, before)
		}
	}
}

func overlap(a, b string) bool {
	if len(a) == 0 || len(b) == 0 {
		return false
	}
	p, q := uintptr(unsafe.Pointer(unsafe.StringData(a))), uintptr(unsafe.Pointer(unsafe.StringData(b)))
	return p < q+uintptr(len(b)) && q < p+uintptr(len(a))
}

func TestP2FlatAndPackLeaveWhatIsHandedIn(t *testing.T) {
	for _, list := range [][]api.File{nil, named("a", "b/c", "d"), {file("z", "data")}, named("b", "a"), named("", "A"), named("a", "b", "c", "d", "e", "f", "g", "h", "i")} {
		files, whole := withRoom(list, file("spare", "room"))
		before := slices.Clone(whole)
		salvage.Flat(files)
		for _, c := range [][3]int{{1, 0, 8}, {2, 10, 64}, {3, 1, 16}, {0, 1, 8}} {
			salvage.Pack(files, c[0], c[1], c[2])
		}
		if !slices.Equal(whole, before) {
			t.Errorf("Flat or Pack wrote into its list or its spare room: %q, before %q", whole, before)
		}
	}
}

// someFiles tells lists of files of which Unpack, Verify and Repair answer each of their errors, or OK.
func someFiles() map[string][]api.File {
	r := rand.New(rand.NewSource(16))
	whole, _ := salvage.Pack(someTree(), 2, 3, 8)
	others := []api.File{file("x", "some other file"), file("v05", "no volume"), file("x", "once more")}
	return map[string][]api.File{
		"whole":             whole,
		"with others":       slices.Concat(others, whole),
		"some lost":         slices.Concat(whole[3:], others),
		"damaged":           damaged(r, whole, randomMarks(r, 26, 2, 5), 8),
		"too few":           damaged(r, whole, randomMarks(r, 26, 1, 5), 8),
		"no manifest":       others,
		"nothing":           nil,
		"bytes of no tree":  slowVolumes("no tree", 1, 1, 8),
		"no bytes":          slowVolumes("", 1, 1, 8),
		"another key":       alone(someStream, 1, 0, 1, 2, 10, slowKey(someStream, 1, 0, 8)),
		"the first of them": {whole[1], file("v00", ""), whole[0], whole[2]},
	}
}

func TestP2ReadingLeavesWhatIsHandedIn(t *testing.T) {
	for what, list := range someFiles() {
		files, all := withRoom(list, file("v00", "spare room"))
		before := slices.Clone(all)
		salvage.Unpack(files)
		salvage.Verify(files)
		salvage.Repair(files)
		if !slices.Equal(all, before) {
			t.Errorf("%s: a call wrote into its list or its spare room: %q, before %q", what, all, before)
		}
	}
}

// What stands in the spare room of a list is no part of it.
func TestP2SpareRoomIsNotRead(t *testing.T) {
	l := packed(t, someTree(), 1, 1, 8)
	room := slices.Concat([]api.File{file("x", "y")}, l)
	refuses(t, "the volumes stand behind the list", room[:1], api.ErrManifest, 0)
	repairs(t, "other files stand behind the list", slices.Concat(l, room)[:2], l, api.OK, 0)
}

func TestP2AnswersShareNothingWithArguments(t *testing.T) {
	r := rand.New(rand.NewSource(11))
	data := randomBlocks(r, 1, 16)
	further, _ := salvage.Encode(3, data)
	all := append(slices.Clone(data), further...)
	have := chosen(all, 2, 1)
	rebuilt, _ := salvage.Rebuild(1, 3, have)
	for i, answer := range further {
		if overlap(answer, data[0]) {
			t.Errorf("Encode: further block %d is the memory of the data block", i)
		}
	}
	for i, answer := range rebuilt {
		for _, b := range have {
			if overlap(answer, b.Data) {
				t.Errorf("Rebuild: block %d is the memory of the block %d that was handed in", i, b.Number)
			}
		}
	}
}

func TestP2FilesShareNothingWithArguments(t *testing.T) {
	stream := slowStream([]api.File{file("a", "data"), file("b/c", strings.Repeat("x", 200))})
	tree, _, _ := salvage.Tree(stream)
	for _, f := range tree {
		if overlap(f.Name, stream) || overlap(f.Data, stream) {
			t.Errorf("Tree: %q is memory of the stream", f.Name)
		}
	}
	again, _ := salvage.Flat(tree)
	volumes, _ := salvage.Pack(tree, 1, 1, 64)
	for _, f := range tree {
		if overlap(again, f.Name) || overlap(again, f.Data) {
			t.Errorf("Flat: the stream is memory of %q", f.Name)
		}
		for _, v := range volumes {
			if overlap(v.Data, f.Data) {
				t.Errorf("Pack: %s is memory of %q", v.Name, f.Name)
			}
		}
	}
}

func TestP2WhatIsReadSharesNothingWithArguments(t *testing.T) {
	for what, files := range someFiles() {
		tree, _, _ := salvage.Unpack(files)
		repaired, _, _ := salvage.Repair(files)
		for _, answer := range slices.Concat(tree, repaired) {
			for _, f := range files {
				if overlap(answer.Data, f.Data) || overlap(answer.Data, f.Name) || overlap(answer.Name, f.Name) || overlap(answer.Name, f.Data) {
					t.Errorf("%s: %q of the answer is memory of %q", what, answer.Name, f.Name)
				}
			}
		}
	}
}

// lent tells a text in memory that can be written over, and that memory.
func lent(s string) (string, []byte) {
	bytes := []byte(s)
	return unsafe.String(unsafe.SliceData(bytes), len(bytes)), bytes
}

func TestP2PiecesAreNotKept(t *testing.T) {
	tree := someTree()
	stream, _ := salvage.Flat(tree)
	w := newWriter(t, 2, 1, 16)
	for i, cuts := 0, []int{0, 100, 100, 300, len(stream)}; i+1 < len(cuts); i++ {
		piece, bytes := lent(stream[cuts[i]:cuts[i+1]])
		writes(t, w, piece, api.OK)
		scribble(bytes, '?')
	}
	closesWriter(t, "pieces written over", w, stream, 2, 1, 16)

	x := newReader(t)
	for _, p := range mixed(rand.New(rand.NewSource(17)), packed(t, tree, 2, 1, 16), 300) {
		name, nameBytes := lent(p.Name)
		piece, bytes := lent(p.Data)
		gives(t, x, name, piece, api.OK)
		scribble(nameBytes, '?')
		scribble(bytes, '?')
	}
	gives(t, x, "???", "no volume", api.OK)
	closesReader(t, "pieces written over", x, tree, api.OK, 0)
}

func TestP2PiecesAreNotShared(t *testing.T) {
	stream := slowStream(someTree())
	w := newWriter(t, 1, 1, 64)
	writes(t, w, stream, api.OK)
	volumes, _ := w.Close()
	for _, f := range volumes {
		if overlap(f.Data, stream) {
			t.Errorf("%s is memory of what was written", f.Name)
		}
	}
	x := newReader(t)
	for _, f := range volumes {
		gives(t, x, f.Name, f.Data, api.OK)
	}
	tree, _, _ := x.Close()
	for _, f := range tree {
		for _, v := range volumes {
			if overlap(f.Data, v.Data) || overlap(f.Name, v.Data) {
				t.Errorf("%q is memory of what was given", f.Name)
			}
		}
	}
}

// scribble writes a mark over a list and its spare room.
func scribble[T any](list []T, mark T) {
	list = list[:cap(list)]
	for i := range list {
		list[i] = mark
	}
}

// blockAnswers is what the calls on numbers and blocks tell of some fixed arguments.
func blockAnswers() (lists [][]string, rest []any) {
	r := rand.New(rand.NewSource(12))
	all := randomBlocks(r, 12, 32)
	for _, m := range []int{0, 1, 5} {
		l, e := salvage.Encode(m, all[:5])
		lists, rest = append(lists, l), append(rest, e)
	}
	for _, numbers := range [][]int{{0, 1, 2, 3}, {3, 2, 1, 0}, {6, 0, 5, 3}, {0, 3, 5, 6, 1}, {4, 5, 6, 1}, {1, 2}, {1, 1, 2, 3}} {
		l, e := salvage.Rebuild(4, 3, chosen(all, numbers...))
		lists, rest = append(lists, l), append(rest, e)
	}
	for _, files := range inOrder(someFiles()) {
		l, e := salvage.Verify(files)
		lists, rest = append(lists, l), append(rest, e)
	}
	rest = append(rest, salvage.Sum(all[0]))
	for _, a := range []int{0, 1, 77, 255, 256} {
		product, e := salvage.Times(a, 200)
		inverse, f := salvage.Inverse(a)
		rest = append(rest, product, e, inverse, f)
	}
	return lists, rest
}

// inOrder tells the lists by what they are called, so that they stand in one order each time.
func inOrder(lists map[string][]api.File) [][]api.File {
	var list [][]api.File
	for _, what := range slices.Sorted(maps.Keys(lists)) {
		list = append(list, lists[what])
	}
	return list
}

// fileAnswers is what the calls on trees and archives tell of some fixed arguments.
func fileAnswers() (lists [][]api.File, rest []any) {
	full := []api.File{file("a", strings.Repeat("xyz", 60)), file("b/c", ""), file("b/d", "data")}
	for _, tree := range [][]api.File{nil, full, full[1:], named("b", "a")} {
		s, e := salvage.Flat(tree)
		rest = append(rest, s, e)
		for _, c := range [][3]int{{1, 0, 8}, {2, 3, 8}, {4, 8, 64}, {0, 1, 8}} {
			l, e := salvage.Pack(tree, c[0], c[1], c[2])
			lists, rest = append(lists, l), append(rest, e)
		}
	}
	stream := slowStream(full)
	for _, s := range []string{stream, "\x00", "", stream[:50], stream + "x"} {
		l, e, place := salvage.Tree(s)
		lists, rest = append(lists, l), append(rest, e, place)
	}
	for _, files := range inOrder(someFiles()) {
		tree, e, n := salvage.Unpack(files)
		repaired, f, stripe := salvage.Repair(files)
		lists, rest = append(lists, tree, repaired), append(rest, e, n, f, stripe)
	}
	return pieceAnswers(lists, rest)
}

// pieceAnswers puts behind these answers what writers and readers of some fixed pieces tell.
func pieceAnswers(lists [][]api.File, rest []any) ([][]api.File, []any) {
	for _, c := range [][3]int{{1, 0, 8}, {2, 3, 8}, {0, 1, 8}} {
		x, e := salvage.NewWriter(c[0], c[1], c[2])
		if rest = append(rest, e); x == nil {
			continue
		}
		for _, piece := range []string{"\x01\x01", "", "a", long, "\x04\x00data"} {
			rest = append(rest, x.Write(piece))
		}
		for range 2 {
			l, e := x.Close()
			lists, rest = append(lists, l), append(rest, e)
		}
	}
	for _, files := range inOrder(someFiles()) {
		x := salvage.NewReader()
		for _, f := range files {
			rest = append(rest, x.Give(f.Name, f.Data), x.Give(f.Name, long))
		}
		for range 2 {
			tree, e, n := x.Close()
			lists, rest = append(lists, tree), append(rest, e, n)
		}
	}
	return lists, rest
}

func sameLists[T comparable](a, b [][]T) bool {
	return slices.EqualFunc(a, b, func(p, q []T) bool { return slices.Equal(p, q) })
}

func copied[T any](lists [][]T) [][]T {
	var list [][]T
	for _, l := range lists {
		list = append(list, slices.Clone(l))
	}
	return list
}

func holdNewMemory[T comparable](t *testing.T, answers func() ([][]T, []any), mark T) {
	t.Helper()
	first, firstRest := answers()
	kept := copied(first)
	second, secondRest := answers()
	if !sameLists(first, kept) {
		t.Errorf("a later call changed what had come out: %#v, before %#v", first, kept)
	}
	if !sameLists(second, kept) || !slices.Equal(firstRest, secondRest) {
		t.Errorf("the same arguments got another answer: %#v, before %#v", second, kept)
	}
	for i := range first {
		scribble(first[i], mark)
		if !sameLists(second, kept) {
			t.Fatalf("writing into one answer changed another one: %#v, before %#v", second, kept)
		}
		for j := i + 1; j < len(first); j++ {
			if !slices.Equal(first[j], kept[j]) {
				t.Fatalf("writing into answer %d changed answer %d: %#v, before %#v", i, j, first[j], kept[j])
			}
		}
	}
	third, thirdRest := answers()
	if !sameLists(third, kept) || !slices.Equal(firstRest, thirdRest) {
		t.Errorf("writing into answers changed later ones: %#v, before %#v", third, kept)
	}
}

func TestP2AnswersAreNewMemory(t *testing.T) {
	holdNewMemory(t, blockAnswers, "scribbled")
	holdNewMemory(t, fileAnswers, file("scribbled", "over"))
}

// What is handed in may be written over by the caller afterwards: nothing of it is kept.
func TestP2NothingIsKept(t *testing.T) {
	all := randomBlocks(rand.New(rand.NewSource(13)), 5, 8)
	data, have := slices.Clone(all[:3]), chosen(all, 4, 2, 0)
	further, _ := salvage.Encode(2, data)
	rebuilt, _ := salvage.Rebuild(3, 2, have)
	keptFurther, keptRebuilt := slices.Clone(further), slices.Clone(rebuilt)
	scribble(data, "scribbled")
	scribble(have, at(1, "scribble"))
	if !slices.Equal(further, keptFurther) || !slices.Equal(rebuilt, keptRebuilt) {
		t.Errorf("writing into arguments changed answers: %q, %q", further, rebuilt)
	}
	if again, e := salvage.Encode(2, all[:3]); !slices.Equal(again, keptFurther) || e != api.OK {
		t.Errorf("writing into arguments changed later answers: %q, %d", again, e)
	}
	if again, e := salvage.Rebuild(3, 2, chosen(all, 4, 2, 0)); !slices.Equal(again, keptRebuilt) || e != api.OK {
		t.Errorf("writing into arguments changed later answers: %q, %d", again, e)
	}
}

func TestP2TreesAreNotKept(t *testing.T) {
	tree := []api.File{file("a", "data"), file("b", "more")}
	kept := slices.Clone(tree)
	volumes, _ := salvage.Pack(tree, 2, 2, 8)
	keptVolumes := slices.Clone(volumes)
	scribble(tree, file("scribbled", "over"))
	if !slices.Equal(volumes, keptVolumes) {
		t.Errorf("writing into a tree changed its volumes: %q", volumes)
	}
	if again, e := salvage.Pack(kept, 2, 2, 8); !slices.Equal(again, keptVolumes) || e != api.OK {
		t.Errorf("writing into a tree changed later answers: %q, %d", again, e)
	}
}

func TestP2VolumesAreNotKept(t *testing.T) {
	tree := someTree()
	whole := packed(t, tree, 2, 2, 8)
	kept := slices.Clone(whole)
	files := append(slices.Clone(whole[1:]), file("x", "y"))
	unpacked, _, _ := salvage.Unpack(files)
	marks, _ := salvage.Verify(files)
	keptMarks := slices.Clone(marks)
	repaired, _, _ := salvage.Repair(files)
	scribble(files, file("v00", "scribbled"))
	if !slices.Equal(unpacked, tree) || !slices.Equal(marks, keptMarks) || !slices.Equal(repaired, append(kept, file("x", "y"))) {
		t.Errorf("writing into the files changed answers: %q, %q, %q", unpacked, marks, repaired)
	}
	refuses(t, "scribbled over", files, api.ErrManifest, 0)
	scribble(repaired, file("v01", "scribbled"))
	unpacks(t, "once more", whole[2:], tree, api.OK, 0)
	repairs(t, "once more", whole[2:], kept[:4], api.OK, 0)
}

func holdSideBySide[T comparable](t *testing.T, answers func() ([][]T, []any)) {
	t.Helper()
	lists, rest := answers()
	var group sync.WaitGroup
	for range 8 {
		group.Go(func() {
			for range 10 {
				l, r := answers()
				if !sameLists(l, lists) || !slices.Equal(r, rest) {
					t.Error("side by side the same arguments got another answer")
				}
			}
		})
	}
	group.Wait()
}

func TestP2CallsSideBySide(t *testing.T) {
	holdSideBySide(t, blockAnswers)
	holdSideBySide(t, fileAnswers)
}

func TestP1ListsOfAnyLength(t *testing.T) {
	many := slices.Repeat([]string{"abcdefgh"}, 1<<20)
	for _, m := range []int{0, 1, -len(many), greatest, least} {
		if l, e := salvage.Encode(m, many); len(l) != 0 || e != api.ErrArg {
			t.Errorf("Encode(%d, a long list) = %d blocks, %d, want ErrArg", m, len(l), e)
		}
	}
	have := make([]api.Block, 1<<20)
	for i := range have {
		have[i] = at(i, "abcdefgh")
	}
	refuseRebuild(t, 6, 6, have, api.ErrArg)
	refuseRebuild(t, len(have), 0, have, api.ErrArg)
	refuseRebuild(t, 1, len(have)-1, have, api.ErrArg)
	long := strings.Repeat("x", 1<<24)
	refuseRebuild(t, 1, 1, []api.Block{at(0, long)}, api.ErrArg)
	refuseRebuild(t, 1, 1, []api.Block{at(0, "abcdefgh"), at(1, long)}, api.ErrArg)
	if l, e := salvage.Encode(1, []string{long}); len(l) != 0 || e != api.ErrArg {
		t.Errorf("Encode(1, a long block) = %d blocks, %d, want ErrArg", len(l), e)
	}
}

func TestP1NoPanicAtAnyArguments(t *testing.T) {
	numbers := append([]int{0, 1, 2, 3, 11, 12, 13, 255}, outside...)
	sizes := []int{0, 1, 7, 8, 9, 16, 64, 65, 72}
	r := rand.New(rand.NewSource(14))
	one := func(list []int) int { return list[r.Intn(len(list))] }
	for range 20000 {
		k, m, size := one(numbers), one(numbers), one(sizes)
		var have []api.Block
		for range r.Intn(15) {
			if r.Intn(10) == 0 {
				size = one(sizes)
			}
			have = append(have, at(one(numbers), strings.Repeat("x", size)))
		}
		if l, e := salvage.Rebuild(k, m, have); e != api.OK && len(l) != 0 || e == api.OK && len(l) != k+m {
			t.Fatalf("Rebuild(%d, %d, %#v) = %q, %d", k, m, have, l, e)
		}
		var data []string
		for _, b := range have {
			data = append(data, b.Data)
		}
		if l, e := salvage.Encode(m, data); e != api.OK && len(l) != 0 || e == api.OK && len(l) != m {
			t.Fatalf("Encode(%d, %q) = %q, %d", m, data, l, e)
		}
		if l, e := salvage.Pack(named("a"), k, m, size); e != api.OK && len(l) != 0 || e == api.OK && len(l) != k+m {
			t.Fatalf("Pack(.., %d, %d, %d) = %q, %d", k, m, size, l, e)
		}
	}
}

func TestP1NoGoroutineRunsOn(t *testing.T) {
	before := runtime.NumGoroutine()
	for range 50 {
		blockAnswers()
		fileAnswers()
	}
	// Goroutines of the test runner's own may be about to end; none may have been added.
	for range 100 {
		if runtime.NumGoroutine() <= before {
			return
		}
		time.Sleep(time.Millisecond)
	}
	t.Errorf("%d goroutines run after the calls, %d before", runtime.NumGoroutine(), before)
}
