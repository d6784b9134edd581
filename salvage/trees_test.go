package salvage_test

import (
	"fmt"
	"math/rand"
	"slices"
	"strings"
	"testing"

	"salvage/api"
	"salvage/salvage"
)

func file(name, data string) api.File { return api.File{Name: name, Data: data} }

// named tells files of these names without data.
func named(names ...string) []api.File {
	var files []api.File
	for _, name := range names {
		files = append(files, file(name, ""))
	}
	return files
}

// Edges of what a tree is, from within.
func edgeTrees() map[string][]api.File {
	long := strings.Repeat("\xff", api.MaxBytes)
	full := []api.File{}
	for i := range api.MaxFiles {
		full = append(full, file("name/"+string(rune('a'+i))+"/edge", long))
	}
	return map[string][]api.File{
		"no file":              nil,
		"one byte":             {file("a", "x")},
		"last letter":          {file("z", "\x00")},
		"names of one byte":    named("a", "b", "z"),
		"the longest name":     {file("abcdefghijkl", "")},
		"the most parts":       {file("a/b/c/d/e/fg", "")},
		"the most data":        {file("a", long)},
		"one less":             {file("a", long[1:])},
		"the most files":       named("a", "b", "c", "d", "e", "f", "g", "h"),
		"the most of all":      full,
		"goes on with letters": named("a", "ab", "abc"),
		"beneath one folder":   named("a/b", "a/c", "aa", "b/a/a", "b/aa"),
		"a folder's namesake":  named("a/a", "ab/a", "b"),
		"data of all bytes":    {file("a", string(allBytes()[:200])), file("b", string(allBytes()[56:]))},
	}
}

func allBytes() []byte {
	all := make([]byte, 256)
	for i := range all {
		all[i] = byte(i)
	}
	return all
}

func TestP5FlatAndTreeOfExamples(t *testing.T) {
	tree := []api.File{file("a", "xy")}
	if s, e := salvage.Flat(tree); s != "\x01\x01a\x02\x00xy" || e != api.OK {
		t.Errorf("Flat(%q) = %q, %d", tree, s, e)
	}
	if l, e, place := salvage.Tree("\x01\x01a\x02\x00xy"); !slices.Equal(l, tree) || e != api.OK || place != 0 {
		t.Errorf("Tree = %q, %d, %d, want %q", l, e, place, tree)
	}
	if l, e, place := salvage.Tree("\x00"); len(l) != 0 || e != api.OK || place != 0 {
		t.Errorf("Tree of one nought = %q, %d, %d", l, e, place)
	}
}

func TestP5FlatAndTreeOfEdges(t *testing.T) {
	for what, tree := range edgeTrees() {
		want := slowStream(tree)
		if s, e := salvage.Flat(tree); s != want || e != api.OK {
			t.Errorf("%s: Flat = %q, %d, want %q", what, s, e, want)
		}
		if l, e, place := salvage.Tree(want); !slices.Equal(l, tree) || e != api.OK || place != 0 {
			t.Errorf("%s: Tree = %q, %d, %d, want %q", what, l, e, place, tree)
		}
	}
}

func refuseFlat(t *testing.T, what string, files []api.File) {
	t.Helper()
	if s, e := salvage.Flat(files); s != "" || e != api.ErrTree {
		t.Errorf("%s: Flat = %q, %d, want ErrTree", what, s, e)
	}
}

var wrongNames = []string{"", "/", "//", "/a", "a/", "a//b", "/a/b", "a/b/", "A", "aB", "`", "{", "a`", "a{", "a.b", "a b", "a\x00", "\xff", "a-b", "0", "é", "abcdefghijklm", "a/b/c/d/e/f/g", strings.Repeat("a", 255), strings.Repeat("a", 256), strings.Repeat("a", 257), strings.Repeat("a", 268)}

// pairs of names that may not stand one behind the other.
var wrongPairs = [][2]string{{"a", "a"}, {"b", "a"}, {"aa", "a"}, {"b", "aa"}, {"a/b", "a"}, {"a", "a/b"}, {"a", "a/b/c"}, {"a/b", "a/b/c"}, {"aa", "a/b"}, {"abcdefghij", "abcdefghij/k"}, {"z", "a"}}

func TestP5FlatRefuses(t *testing.T) {
	for _, name := range wrongNames {
		refuseFlat(t, fmt.Sprintf("the name %q", name), []api.File{file(name, "")})
		refuseFlat(t, fmt.Sprintf("the name %q in the middle", name), named("a", name, "z"))
		refuseFlat(t, fmt.Sprintf("the name %q at the end", name), named("a", "b", name))
	}
	for _, pair := range wrongPairs {
		refuseFlat(t, fmt.Sprint(pair), named(pair[0], pair[1]))
		refuseFlat(t, fmt.Sprint(pair, " with others"), named(pair[0], pair[1], "zz"))
	}
	for _, length := range []int{201, 255, 256, 257, 456, 1<<16 - 1, 1 << 16, 1<<16 + 1, 1<<16 + 200} {
		long := file("b", strings.Repeat("x", length))
		refuseFlat(t, fmt.Sprintf("data of %d bytes", length), []api.File{long})
		refuseFlat(t, fmt.Sprintf("data of %d bytes in the middle", length), []api.File{file("a", ""), long, file("c", "")})
	}
	refuseFlat(t, "nine files", named("a", "b", "c", "d", "e", "f", "g", "h", "i"))
	var many []api.File
	for i := range 264 {
		many = append(many, file(string([]byte{'a' + byte(i/26), 'a' + byte(i%26)}), ""))
	}
	for _, n := range []int{10, 255, 256, 257, 264} {
		refuseFlat(t, fmt.Sprintf("%d files", n), many[:n])
	}
}

// wrongStream tells whether Tree refuses a stream at a place, and nothing else comes with it.
func wrongStream(t *testing.T, stream string, want int) {
	t.Helper()
	if l, e, place := salvage.Tree(stream); len(l) != 0 || e != api.ErrTree || place != want {
		t.Errorf("Tree(%q) = %q, %d, %d, want ErrTree, %d", stream, l, e, place, want)
	}
}

func TestP5TreeTellsThePlace(t *testing.T) {
	ahead := "\x02\x01b\x03\x00xyz"
	for _, c := range []struct {
		stream string
		place  int
	}{
		// How many files.
		{"", 0}, {"\x09", 0}, {"\xff", 0}, {"\x09\x01a\x00\x00", 0},
		// How long a name is.
		{"\x01", 1}, {"\x01\x00", 1}, {"\x01\x0d", 1}, {"\x01\xff", 1}, {"\x01\x0dabcdefghijklm\x00\x00", 1}, {"\x01\x00\x00\x00", 1}, {ahead + "\x00", 8}, {ahead + "\x0dcdefghijklmno\x00\x00", 8}, {ahead, 8},
		// A name.
		{"\x01\x01A", 2}, {"\x01\x01/", 2}, {"\x01\x02a/", 2}, {"\x01\x02/a", 2}, {"\x01\x04a//b", 2}, {"\x01\x01`", 2}, {"\x01\x01{", 2}, {"\x01\x02a\x00\x00\x00", 2}, {"\x01\x0cabcdefghijk/\x00\x00", 2},
		{"\x01\x02a", 3}, {"\x01\x02", 2}, {"\x01\x02A", 3}, {"\x01\x03//", 4}, {"\x01\x0cabcdefghijk", 13},
		{ahead + "\x01a\x00\x00", 9}, {ahead + "\x01b\x00\x00", 9}, {ahead + "\x02aa", 9}, {ahead + "\x03b/c\x00\x00", 9}, {ahead + "\x03b/C\x00\x00", 9}, {ahead + "\x01C\x00\x00", 9}, {ahead + "\x03b/", 11},
		// How long data are.
		{"\x01\x01a", 3}, {"\x01\x01a\x00", 4}, {"\x01\x01a\xc9", 4}, {"\x01\x01a\xc9\x00", 3}, {"\x01\x01a\x00\x01", 3}, {"\x01\x01a\xff\xff", 3}, {"\x01\x01a\x00\xff", 3}, {"\x01\x01a\xc8\x01" + strings.Repeat("x", 456), 3}, {"\x01\x01a\xc9\x00" + strings.Repeat("x", 201), 3}, {ahead + "\x01c\xc9\x00", 10},
		// The data.
		{"\x01\x01a\x01\x00", 5}, {"\x01\x01a\x02\x00x", 6}, {"\x01\x01a\xc8\x00" + strings.Repeat("x", 199), 204}, {ahead + "\x01c\x02\x00x", 13},
		// What stands behind the last file.
		{"\x00\x00", 1}, {"\x00\x01a\x00\x00", 1}, {"\x01\x01a\x00\x00x", 5}, {"\x01\x01a\x00\x00\x01b\x00\x00", 5}, {"\x01\x01a\xc8\x00" + strings.Repeat("x", 201), 205}, {ahead + "\x01c\x00\x00" + "\x00\x00\x00", 12},
		// Of two faults the first one.
		{"\x02\x01A\x00\x00\x00", 2}, {"\x02\x01a\xc9\x00\x00", 3}, {"\x02\x00\x09", 1}, {"\x09\x00", 0},
	} {
		wrongStream(t, c.stream, c.place)
	}
}

func TestP5TreeOfWrongNames(t *testing.T) {
	for _, name := range wrongNames {
		if len(name) >= 1 && len(name) <= api.MaxName {
			wrongStream(t, slowStream([]api.File{file(name, "x")}), 2)
			wrongStream(t, slowStream(named("a", name, "z")), 6)
		}
	}
	for _, pair := range wrongPairs {
		place := 5 + len(pair[0])
		wrongStream(t, slowStream(named(pair[0], pair[1], "zz")), place)
		wrongStream(t, slowStream([]api.File{file(pair[0], "data"), file(pair[1], "")}), place+4)
	}
}

func TestP5TreeOfStreamsThatEndOrGoOn(t *testing.T) {
	for _, tree := range edgeTrees() {
		stream := slowStream(tree)
		for n := range len(stream) {
			wrongStream(t, stream[:n], n)
		}
		for _, more := range []string{"\x00", "x", "\x01z\x00\x00", stream} {
			wrongStream(t, stream+more, len(stream))
		}
	}
}

// holdTree holds what Tree answers against the slow reference.
func holdTree(t *testing.T, stream string) {
	t.Helper()
	tree, place, ok := slowTree(stream)
	want := api.ErrTree
	if ok {
		want = api.OK
	}
	l, e, got := salvage.Tree(stream)
	if !slices.Equal(l, tree) || e != want || got != place {
		t.Fatalf("Tree(%q) = %q, %d, %d, want %q, %d, %d", stream, l, e, got, tree, want, place)
	}
	if s, e := salvage.Flat(l); ok && (s != stream || e != api.OK) {
		t.Fatalf("Flat(%q) = %q, %d, want %q", l, s, e, stream)
	}
}

func TestP5TreeOfAllShortStreams(t *testing.T) {
	alphabet := []byte{0, 1, 2, 3, '/', 'a', 'b', 201}
	var grow func(stream []byte)
	grow = func(stream []byte) {
		holdTree(t, string(stream))
		if len(stream) < 6 {
			for _, b := range alphabet {
				grow(append(stream, b))
			}
		}
	}
	grow(make([]byte, 0, 6))
	for _, ahead := range []string{"\x02\x01b\x00\x00", "\x02\x02ab\x01\x00x", "\x03\x01a\x00\x00\x01b\x00\x00"} {
		for _, length := range []string{"\x01", "\x02", "\x03"} {
			for _, a := range alphabet {
				for _, b := range alphabet {
					for _, c := range alphabet {
						holdTree(t, ahead+length+string([]byte{a, b, c, 0, 0}))
					}
				}
			}
		}
	}
}

// randomTree tells a tree, of few names, so that neighbours are alike.
func randomTree(r *rand.Rand) []api.File {
	var tree []api.File
	for range r.Intn(20) {
		name := randomName(r)
		data := make([]byte, []int{0, 1, r.Intn(20), r.Intn(201), 200}[r.Intn(5)])
		r.Read(data)
		more := append(slices.Clone(tree), file(name, string(data)))
		slices.SortFunc(more, func(a, b api.File) int { return strings.Compare(a.Name, b.Name) })
		if slowIsTree(more) {
			tree = more
		}
	}
	return tree
}

func randomName(r *rand.Rand) string {
	name := make([]byte, 1+r.Intn(5))
	if r.Intn(5) == 0 {
		name = make([]byte, 12)
	}
	for i := range name {
		name[i] = "ab/z"[r.Intn(4)]
	}
	return string(name)
}

func TestP5RandomListsAreHeldAgainstTheWords(t *testing.T) {
	r := rand.New(rand.NewSource(51))
	trees := 0
	for range 40000 {
		var files []api.File
		for range r.Intn(4) {
			files = append(files, file(randomName(r), "x"))
		}
		want, wantError := "", api.ErrTree
		if slowIsTree(files) {
			want, wantError = slowStream(files), api.OK
			trees++
		}
		if s, e := salvage.Flat(files); s != want || e != wantError {
			t.Fatalf("Flat(%q) = %q, %d, want %q, %d", files, s, e, want, wantError)
		}
	}
	if trees < 1000 {
		t.Errorf("only %d of the lists were trees", trees)
	}
}

func TestP5RandomStreamsAreHeldAgainstTheWords(t *testing.T) {
	r := rand.New(rand.NewSource(52))
	edges := []byte{0, 1, 2, 8, 9, 12, 13, '/', '`', 'a', 'z', '{', 199, 200, 201, 255}
	for range 20000 {
		stream := []byte(slowStream(randomTree(r)))
		holdTree(t, string(stream))
		for range r.Intn(4) {
			stream[r.Intn(min(len(stream), 40))] = edges[r.Intn(len(edges))]
		}
		holdTree(t, string(stream))
		holdTree(t, string(stream[:r.Intn(len(stream))]))
	}
}

func TestP1StreamsAndListsOfAnyLength(t *testing.T) {
	long := strings.Repeat("a", 1<<24)
	wrongStream(t, long, 0)
	wrongStream(t, "\x00"+long, 1)
	wrongStream(t, "\x01\x01a\x00\x00"+long, 5)
	wrongStream(t, "\x01\xff"+long, 1)
	refuseFlat(t, "a long name", []api.File{file(long, "")})
	refuseFlat(t, "a long name of the right parts", []api.File{file(strings.Repeat("a/", 1<<23)+"a", "")})
	refuseFlat(t, "long data", []api.File{file("a", long)})
	refuseFlat(t, "many files", slices.Repeat(named("a"), 1<<20))
}
