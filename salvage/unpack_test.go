package salvage_test

import (
	"fmt"
	"math/bits"
	"math/rand"
	"slices"
	"strings"
	"testing"

	"salvage/api"
	"salvage/salvage"
)

func TestP7UnpackOfTheExample(t *testing.T) {
	l := packed(t, nil, 1, 1, 8)
	for what, files := range map[string][]api.File{
		"both": l, "the first": l[:1], "the second": l[1:],
		"the first byte turned":           with(l, 0, turned(l[0].Data, 0)),
		"the first byte turned, alone":    with(l, 0, turned(l[0].Data, 0))[:1],
		"a byte of the frame turned":      with(l, 0, turned(l[0].Data, 40)),
		"both manifests of one turned":    with(l, 0, turned(l[0].Data, 3, 77)),
		"the first's frame, by a name":    {l[0], file("v01", "")},
		"the manifest of one, by another": {file("v11", l[0].Data[:25]), file("v01", turned(l[1].Data, 1, 60))},
	} {
		unpacks(t, what, files, nil, api.OK, 0)
		holdFound(t, what, files)
	}
}

func TestP7UnpackOfWholeVolumes(t *testing.T) {
	for what, tree := range edgeTrees() {
		for _, code := range [][2]int{{1, 0}, {1, 1}, {1, 11}, {3, 2}, {12, 0}, {6, 6}} {
			for _, size := range []int{8, 40, 64} {
				unpacks(t, what, packed(t, tree, code[0], code[1], size), tree, api.OK, 0)
			}
		}
	}
}

// left tells the volumes whose bits are set.
func left(volumes []api.File, set int) []api.File {
	var list []api.File
	for v, f := range volumes {
		if set>>v&1 == 1 {
			list = append(list, f)
		}
	}
	return list
}

// Any k volumes are enough, and k - 1 never are.
func TestP7UnpackOfEachChoiceOfVolumes(t *testing.T) {
	tree := []api.File{file("a", "some data that fill"), file("b/c", "several stripes of eight")}
	for _, c := range [][3]int{{1, 0, 8}, {2, 0, 8}, {1, 3, 16}, {3, 2, 8}, {4, 4, 8}, {5, 1, 64}} {
		k, m := c[0], c[1]
		l := packed(t, tree, k, m, c[2])
		for set := 1; set < 1<<(k+m); set++ {
			what := fmt.Sprintf("k %d, m %d, volumes %b", k, m, set)
			if bits.OnesCount(uint(set)) >= k {
				unpacks(t, what, left(l, set), tree, api.OK, 0)
			} else {
				refuses(t, what, left(l, set), api.ErrFew, 0)
			}
		}
	}
}

func TestP7UnpackOfTwelveVolumes(t *testing.T) {
	r := rand.New(rand.NewSource(71))
	tree := someTree()
	for k := 1; k <= 12; k++ {
		l := packed(t, tree, k, 12-k, 8)
		for range 10 {
			r.Shuffle(12, func(i, j int) { l[i], l[j] = l[j], l[i] })
			unpacks(t, "just k of twelve", l[:k], tree, api.OK, 0)
			if k > 1 {
				refuses(t, "one fewer", l[:k-1], api.ErrFew, 0)
			}
		}
	}
}

// randomMarks tells so many stripes, each with a choice of its own of just so many good blocks of all.
func randomMarks(r *rand.Rand, stripes, good, all int) []string {
	var marks []string
	for range stripes {
		line := []byte(strings.Repeat("0", all))
		for _, v := range r.Perm(all)[:good] {
			line[v] = '1'
		}
		marks = append(marks, string(line))
	}
	return marks
}

func TestP7EachStripeHasItsOwnGoodBlocks(t *testing.T) {
	r := rand.New(rand.NewSource(72))
	tree := someTree()
	for _, c := range [][3]int{{2, 3, 8}, {1, 2, 16}, {2, 10, 8}, {6, 6, 8}, {3, 1, 24}, {4, 0, 8}} {
		k, m, size := c[0], c[1], c[2]
		whole := packed(t, tree, k, m, size)
		stripes := (408 + k*size - 1) / (k * size)
		marks := randomMarks(r, stripes, k, k+m)
		l := damaged(r, whole, marks, size)
		unpacks(t, "just k", l, tree, api.OK, 0)
		verifies(t, "just k", l, marks, api.OK)
		repairs(t, "just k", l, whole, api.OK, 0)
		for s := range stripes {
			// One fewer in this stripe, and in all behind it.
			fewer := slices.Concat(marks[:s], randomMarks(r, stripes-s, k-1, k+m))
			l := damaged(r, whole, fewer, size)
			refuses(t, "one fewer", l, api.ErrFew, s)
			verifies(t, "one fewer", l, fewer, api.OK)
			// In this one alone.
			fewer = slices.Concat(fewer[:s+1], marks[s+1:])
			refuses(t, "one fewer in one", damaged(r, whole, fewer, size), api.ErrFew, s)
		}
	}
}

func TestP7UnpackOfVolumesInAnyOrder(t *testing.T) {
	r := rand.New(rand.NewSource(73))
	tree := someTree()
	whole := packed(t, tree, 3, 2, 8)
	for range 30 {
		l := slices.Clone(whole)
		for _, name := range []string{"", "v", "v0", "v000", "V00", "v05", "v12", "v99", "a", "v00 ", "v1", "v-1", "w00"} {
			l = append(l, file(name, whole[r.Intn(5)].Data))
		}
		r.Shuffle(len(l), func(i, j int) { l[i], l[j] = l[j], l[i] })
		unpacks(t, "with others", l, tree, api.OK, 0)
		holdFound(t, "with others", l)
	}
}

// Of a name that stands there twice the first one counts, be it lost or whole.
func TestP7TheFirstOfANameCounts(t *testing.T) {
	tree := someTree()
	l := packed(t, tree, 1, 1, 8)
	a, b := l[0], l[1]
	for _, lost := range []string{"", "M", a.Data[:24], a.Data[:25], turned(a.Data, 40), b.Data} {
		unpacks(t, "a whole one behind", []api.File{file("v00", lost), a, b}, tree, api.OK, 0)
		holdFound(t, "a whole one behind", []api.File{file("v00", lost), a, b})
		holdFound(t, "whole ones behind", []api.File{file("v00", lost), a, file("v01", lost), b})
		holdFound(t, "a lost one behind", []api.File{a, b, file("v00", lost), file("v01", lost)})
	}
	refuses(t, "an empty one ahead", []api.File{file("v00", ""), a}, api.ErrManifest, 0)
	refuses(t, "a manifest ahead", []api.File{file("v00", a.Data[:25]), a}, api.ErrFew, 0)
	unpacks(t, "an empty one behind", []api.File{a, file("v00", "")}, tree, api.OK, 0)
}

func TestP7UnpackWithoutManifest(t *testing.T) {
	a := packed(t, nil, 1, 0, 8)[0].Data
	manifest := a[:25]
	for what, l := range map[string][]api.File{
		"nothing":            nil,
		"no file":            {},
		"empty":              {file("v00", "")},
		"24 bytes":           {file("v00", manifest[:24])},
		"24 bytes, the last": {file("v00", manifest[1:])},
		"both turned":        {file("v00", turned(a, 0, len(a)-1))},
		"in the middle":      {file("v00", "x"+a+"x")},
		"another name":       {file("v", a), file("v0", a), file("v000", a), file("V00", a), file("", a), file("v12", a), file("v20", a), file("v99", a), file("v0a", a), file("00", a), file("x/v00", a)},
		"cut":                {file("v00", a[1:len(a)-1])},
	} {
		refuses(t, what, l, api.ErrManifest, 0)
		verifies(t, what, l, nil, api.ErrManifest)
	}
	for what, l := range map[string][]api.File{
		"just 25 bytes":   {file("v00", manifest)},
		"26, the last 25": {file("v00", "x"+manifest)},
		"26, the first":   {file("v00", manifest+"x")},
		"the last volume": {file("v11", manifest)},
		"49 bytes":        {file("v03", manifest[:24]+manifest)},
	} {
		refuses(t, what, l, api.ErrFew, 0)
		verifies(t, what, l, []string{"0"}, api.OK)
	}
	unpacks(t, "the frame, and the last manifest of another", []api.File{file("v00", strings.Repeat("?", 25)+a[25:53]), file("v07", "??"+manifest)}, nil, api.OK, 0)
}

// Each byte of a manifest that is turned makes its sum a wrong one.
func TestP7ManifestsOfWrongSums(t *testing.T) {
	l := packed(t, nil, 1, 0, 8)
	for i := range 25 {
		unpacks(t, "the first turned", with(l, 0, turned(l[0].Data, i)), nil, api.OK, 0)
		unpacks(t, "the last turned", with(l, 0, turned(l[0].Data, 53+i)), nil, api.OK, 0)
		for j := range 25 {
			refuses(t, "both turned", with(l, 0, turned(l[0].Data, i, 53+j)), api.ErrManifest, 0)
		}
	}
}

const someStream = "\x01\x01a\x06\x00sixsix"

func TestP7ManifestsOfRightSumsThatMayNotBe(t *testing.T) {
	key := slowKey(someStream, 1, 0, 8)
	unpacks(t, "as it was written", alone(someStream, 1, 0, 1, 2, 11, key), []api.File{file("a", "sixsix")}, api.OK, 0)
	for _, c := range [][5]int{
		{0, 0, 1, 2, 11}, {0, 1, 1, 2, 11}, {0, 0, 0, 0, 0}, {13, 0, 1, 1, 11}, {255, 0, 1, 1, 11}, // k
		{1, 12, 1, 2, 11}, {1, 255, 1, 2, 11}, {12, 1, 1, 1, 11}, {7, 6, 1, 1, 11}, {255, 255, 255, 1, 11}, // m
		{1, 0, 0, 0, 0}, {1, 0, 0, 2, 11}, {1, 0, 9, 1, 11}, {1, 0, 32, 1, 11}, {1, 0, 255, 1, 11}, // size
		{1, 0, 1, 0, 11}, {1, 0, 1, 1, 11}, {1, 0, 1, 3, 11}, {1, 0, 1, 258, 11}, {1, 0, 1, 65535, 11}, {1, 0, 1, 1, 0}, {1, 0, 1, 0, 1}, // stripes
		{1, 0, 1, 251, 2001}, {1, 0, 1, 251, 2008}, {12, 0, 8, 3, 2001}, {1, 0, 1, 8192, 65536}, {1, 0, 1, 2, 65536 + 11}, {1, 0, 8, 65535, 4194240}, {1, 0, 1, 2, 16777215}, {1, 0, 1, 2, 8}, {1, 0, 1, 2, 17}, // bytes
	} {
		l := alone(someStream, c[0], c[1], c[2], c[3], c[4], key)
		refuses(t, fmt.Sprint(c), l, api.ErrManifest, 0)
		verifies(t, fmt.Sprint(c), l, nil, api.ErrManifest)
	}
	for _, first := range []string{"m", "B", "\x00", "N"} {
		manifest := slowManifest(1, 0, 1, 2, 11, key)
		manifest = slowSealed(first + manifest[1:17])
		l := alone(someStream, 1, 0, 1, 2, 11, key)
		data := l[0].Data
		refuses(t, "no M", with(l, 0, manifest+data[25:len(data)-25]+manifest), api.ErrManifest, 0)
		unpacks(t, "no M, but the last", with(l, 0, manifest+data[25:]), []api.File{file("a", "sixsix")}, api.OK, 0)
	}
}

func TestP7ManifestsAtTheEdgesOfWhatMayBe(t *testing.T) {
	for _, c := range [][5]int{{1, 0, 1, 250, 2000}, {1, 0, 1, 250, 1993}, {1, 11, 8, 32, 2000}, {12, 0, 8, 3, 2000}, {12, 0, 8, 1, 1}, {11, 1, 8, 1, 704}, {1, 0, 1, 1, 8}, {1, 0, 1, 2, 9}, {6, 6, 5, 0, 0}} {
		l := []api.File{file("v04", slowManifest(c[0], c[1], c[2], c[3], c[4], "anything"))}
		if c[3] == 0 {
			refuses(t, fmt.Sprint(c), l, api.ErrStream, 0)
			verifies(t, fmt.Sprint(c), l, nil, api.OK)
			continue
		}
		refuses(t, fmt.Sprint(c), l, api.ErrFew, 0)
		verifies(t, fmt.Sprint(c), l, slices.Repeat([]string{strings.Repeat("0", c[0]+c[1])}, c[3]), api.OK)
	}
}

// Of several good manifests the first counts: the first 25 bytes of a volume, then its last 25, then the next volume's.
func TestP7TheFirstGoodManifestCounts(t *testing.T) {
	tree, other := []api.File{file("a", "this")}, []api.File{file("b", "that")}
	is, not := packed(t, tree, 1, 2, 8), packed(t, other, 1, 2, 8)
	manifest, wrong := is[0].Data[:25], not[0].Data[:25]
	bad := turned(manifest, 5)
	frames := is[1].Data[25 : len(is[1].Data)-25]
	for _, c := range []struct {
		what          string
		v00, v01, v02 string
		want          []api.File
		e             api.Errno
	}{
		{"first of v00, ahead of its last", manifest + wrong, bad + frames + wrong, wrong + wrong, tree, api.OK},
		{"last of v00, ahead of v01's first", bad + manifest, wrong + frames + wrong, wrong, tree, api.OK},
		{"first of v01, ahead of its last", bad, manifest + frames + wrong, wrong + wrong, tree, api.OK},
		{"last of v01, ahead of v02", bad, bad + frames + manifest, wrong + wrong, tree, api.OK},
		{"v02", "", bad + frames + bad, manifest + wrong, tree, api.OK},
		{"another one first", wrong, manifest + frames + manifest, manifest, nil, api.ErrFew},
		{"another one first, the last of v00", bad + wrong, manifest + frames + manifest, manifest, nil, api.ErrFew},
		{"another one first, of v01", bad, wrong + frames + manifest, manifest, nil, api.ErrFew},
		{"the other one first, with its frames", wrong, manifest + frames + manifest, not[2].Data, other, api.OK},
		{"the one first, with its frames", manifest, manifest + frames + manifest, not[2].Data, tree, api.OK},
	} {
		l := []api.File{file("v00", c.v00), file("v01", c.v01), file("v02", c.v02)}
		unpacks(t, c.what, l, c.want, c.e, 0)
		holdFound(t, c.what, l)
		slices.Reverse(l)
		unpacks(t, c.what+", turned round", l, c.want, c.e, 0)
	}
	// v09 and v10, v11: by numbers, not by places in the list.
	l := []api.File{file("v11", wrong), file("v10", wrong), file("v09", manifest), is[1]}
	unpacks(t, "of v09 to v11", append(l, is[2]), tree, api.OK, 0)
	unpacks(t, "of v10 and v11", []api.File{file("v11", wrong), file("v10", manifest), file("v02", bad+frames), file("v01", bad+frames)}, tree, api.OK, 0)
}

// Blocks whose frames are right as such, but for what they belong to.
func TestP7FramesOfSomethingElse(t *testing.T) {
	tree := someTree()
	l := packed(t, tree, 1, 1, 8)
	data, key, begin := l[0].Data, l[0].Data[9:17], frameAt(7, 8)
	block := data[begin+12 : begin+20]
	another := packed(t, append(someTree(), file("c", "x")), 1, 1, 8)[0].Data
	for what, frame := range map[string]string{
		"another volume's":            slowFrame(1, 7, key, block),
		"of a volume that is not":     slowFrame(2, 7, key, block),
		"another stripe's":            slowFrame(0, 6, key, block),
		"of a stripe far out":         slowFrame(0, 7+256, key, block),
		"another archive's":           another[begin : begin+28],
		"of a key with another byte":  slowFrame(0, 7, turned(key, 7), block),
		"with a wrong sum":            turned(slowFrame(0, 7, key, block), 27),
		"with a wrong block":          turned(slowFrame(0, 7, key, block), 15),
		"another letter's":            slowSealed("M" + slowFrame(0, 7, key, block)[1:20]),
		"noughts":                     strings.Repeat("\x00", 28),
		"the frame a byte further on": data[begin-1 : begin+27],
	} {
		lost := with(l, 0, over(data, begin, frame))
		marks := slices.Repeat([]string{"11"}, 51)
		marks[7] = "01"
		verifies(t, what, lost, marks, api.OK)
		unpacks(t, what, lost, tree, api.OK, 0)
		repairs(t, what, lost, l, api.OK, 0)
		refuses(t, what, lost[:1], api.ErrFew, 7)
	}
}

// Each byte of a frame is one that its being good hangs on.
func TestP7FramesWithOneByteTurned(t *testing.T) {
	l := packed(t, []api.File{file("a", "some data")}, 1, 1, 8)
	for i := range 28 {
		for v := range 2 {
			lost := with(l, v, turned(l[v].Data, 25+28+i))
			unpacks(t, "a byte turned", lost, []api.File{file("a", "some data")}, api.OK, 0)
			refuses(t, "a byte turned, alone", lost[v:v+1], api.ErrFew, 1)
		}
	}
}

func TestP7VolumesThatAreCutShort(t *testing.T) {
	tree := []api.File{file("a", "some data"), file("b", "and more of it")}
	l := packed(t, tree, 1, 1, 8)
	for v := range 2 {
		for n := range len(l[v].Data) + 1 {
			cut := with(l, v, l[v].Data[:n])
			unpacks(t, "cut behind", cut, tree, api.OK, 0)
			repairs(t, "cut behind", cut, l, api.OK, 0)
			holdFound(t, "cut behind", cut)
			holdFound(t, "cut behind, alone", cut[v:v+1])
			ahead := with(l, v, l[v].Data[n:])
			unpacks(t, "cut ahead", ahead, tree, api.OK, 0)
			holdFound(t, "cut ahead, alone", ahead[v:v+1])
		}
	}
	stripes := (len(l[0].Data) - 50) / 28
	refuses(t, "the last frame a byte short", []api.File{file("v00", l[0].Data[:frameAt(stripes, 8)-1])}, api.ErrFew, stripes-1)
	unpacks(t, "cut behind the last frame", []api.File{file("v00", l[0].Data[:frameAt(stripes, 8)])}, tree, api.OK, 0)
	unpacks(t, "with something behind", []api.File{file("v00", l[0].Data+strings.Repeat("more", 1000))}, tree, api.OK, 0)
}

// Good blocks that do not belong together: the first k of them by volumes count, and the others are not asked.
func TestP7TheFirstGoodBlocksCount(t *testing.T) {
	// As many bytes as fill three blocks.
	tree := []api.File{file("a", "nineteen bytes here")}
	stream := slowStream(tree)
	for _, c := range [][2]int{{1, 1}, {1, 3}, {2, 2}, {3, 4}} {
		k, m := c[0], c[1]
		l := slowVolumes(stream, k, m, 8)
		key := l[0].Data[9:17]
		for v := range k + m {
			frame := slowFrame(v, 0, key, "anything")
			forged := with(l, v, over(l[v].Data, 25, frame))
			what := fmt.Sprintf("k %d, m %d, block %d is another one", k, m, v)
			verifies(t, what, forged, slowFind(l).marks, api.OK)
			if v >= k {
				unpacks(t, what, forged, tree, api.OK, 0)
				repairs(t, what, forged, l, api.OK, 0)
			} else {
				refuses(t, what, forged, api.ErrStream, 0)
			}
			if v == k {
				refuses(t, what+", and volume 0 is lost", forged[1:], api.ErrStream, 0)
			}
			slices.Reverse(forged)
			holdFound(t, what+", turned round", forged)
		}
	}
}

func TestP7BytesOfAnotherKey(t *testing.T) {
	key := slowKey(someStream, 1, 0, 8)
	refuses(t, "a byte less", alone(someStream, 1, 0, 1, 2, 10, key), api.ErrStream, 0)
	refuses(t, "a byte more", alone(someStream, 1, 0, 1, 2, 12, key), api.ErrStream, 0)
	refuses(t, "a volume more", alone(someStream, 1, 1, 1, 2, 11, key), api.ErrStream, 0)
	refuses(t, "stripes more", alone(someStream, 1, 0, 1, 3, 17, key), api.ErrFew, 2)
	refuses(t, "another key", alone(someStream, 1, 0, 1, 2, 11, slowKey(someStream, 1, 1, 8)), api.ErrStream, 0)
	refuses(t, "no bytes, another key", alone("", 1, 0, 1, 0, 0, key), api.ErrStream, 0)
	refuses(t, "no tree's bytes, another key", alone("\x09", 1, 0, 1, 1, 1, key), api.ErrStream, 0)
	refuses(t, "some noughts less", alone("\x01\x01a\x03\x00\x00\x00\x00", 1, 0, 1, 1, 5, slowKey("\x01\x01a\x03\x00\x00\x00\x00", 1, 0, 8)), api.ErrStream, 0)
}

func TestP7BytesOfNoTree(t *testing.T) {
	for _, c := range []struct {
		bytes string
		place int
	}{
		{"", 0}, {"\x09", 0}, {"\x01\x00", 1}, {"\x01\x01A", 2}, {"\x01\x02a/", 2}, {"\x01\x02a", 3}, {"\x02\x01b\x00\x00\x01a", 6}, {"\x01\x01a\xc9\x00", 3}, {"\x01\x01a\x00\x00x", 5}, {"\x00\x00", 1}, {someStream + "x", 11}, {strings.Repeat("\x00", 2000), 1}, {"\x01\x01a\xc8\x00" + strings.Repeat("x", 1995), 205},
	} {
		for _, code := range [][3]int{{1, 0, 8}, {2, 2, 8}, {1, 11, 64}, {12, 0, 64}} {
			l := slowVolumes(c.bytes, code[0], code[1], code[2])
			unpacks(t, "no tree", l, nil, api.ErrTree, c.place)
			unpacks(t, "no tree, of the last k", l[code[1]:], nil, api.ErrTree, c.place)
			repairs(t, "no tree", l[code[1]:], l, api.OK, 0)
		}
	}
}

// What a stripe is filled up with is not archived: it may be anything.
func TestP7WhatFillsUpIsNotAsked(t *testing.T) {
	key := slowKey(someStream, 1, 1, 8)
	l := slowVolumes(someStream, 1, 1, 8)
	forged := with(l, 0, over(l[0].Data, frameAt(1, 8), slowFrame(0, 1, key, someStream[8:]+"other")))
	tree := []api.File{file("a", "sixsix")}
	unpacks(t, "filled up with something", forged, tree, api.OK, 0)
	verifies(t, "filled up with something", forged, []string{"11", "11"}, api.OK)
	repairs(t, "filled up with something", forged, l, api.OK, 0)
	unpacks(t, "filled up with something, alone", forged[:1], tree, api.OK, 0)
	repairs(t, "filled up with something, alone", forged[:1], l, api.OK, 0)
}

// Where several errors apply, the one named first is told.
func TestP1UnpackTellsTheErrorNamedFirst(t *testing.T) {
	key := slowKey("\x09", 1, 0, 8)
	few := alone("\x09", 1, 0, 1, 2, 9, slowKey(someStream, 1, 0, 8))
	refuses(t, "too few blocks of bytes with another key that are no tree's", few, api.ErrFew, 1)
	refuses(t, "no manifest of those", with(few, 0, few[0].Data[25:len(few[0].Data)-25]), api.ErrManifest, 0)
	refuses(t, "another key, and no tree", alone("\x09", 1, 0, 1, 1, 2, key), api.ErrStream, 0)
	unpacks(t, "no tree", alone("\x09", 1, 0, 1, 1, 1, key), nil, api.ErrTree, 0)
}

func TestP1UnpackOfListsOfAnyLength(t *testing.T) {
	tree := []api.File{file("a", "data")}
	l := packed(t, tree, 2, 1, 8)
	long := strings.Repeat("M", 1<<24)
	many := slices.Repeat([]api.File{file("x", "y")}, 1<<20)
	refuses(t, "many files", many, api.ErrManifest, 0)
	refuses(t, "many volumes", slices.Repeat([]api.File{file("v00", "M")}, 1<<20), api.ErrManifest, 0)
	refuses(t, "long ones", []api.File{file("v00", long), file("v01", long), file(long, long)}, api.ErrManifest, 0)
	unpacks(t, "behind many", append(many, l...), tree, api.OK, 0)
	unpacks(t, "with a long one", []api.File{file("v00", long), l[2], l[1], file(long, "")}, tree, api.OK, 0)
	unpacks(t, "with something long behind", with(l, 0, l[0].Data+long), tree, api.OK, 0)
	repaired := append(slices.Clone(l), many...)
	if got, e, n := salvage.Repair(append(many, l...)); !slices.Equal(got, repaired) || e != api.OK || n != 0 {
		t.Errorf("Repair with many others = %d files, %d, %d", len(got), e, n)
	}
}
