package salvage_test

import (
	"fmt"
	"math/rand"
	"slices"
	"strings"
	"testing"

	"salvage/api"
	"salvage/salvage"
)

func TestP6PackOfTheExample(t *testing.T) {
	l, e := salvage.Pack(nil, 1, 1, 8)
	if e != api.OK || len(l) != 2 {
		t.Fatalf("Pack of the empty tree = %q, %d", l, e)
	}
	key := salvage.Sum("salvage\x01\x01\x01\x00")
	for v, volume := range l {
		manifest := "M\x01\x01\x01\x01\x00\x01\x00\x00" + key
		manifest += salvage.Sum(manifest)
		frame := "B" + string(rune(v)) + "\x00\x00" + key + strings.Repeat("\x00", 8)
		frame += salvage.Sum(frame)
		want := file([]string{"v00", "v01"}[v], manifest+frame+manifest)
		if volume != want || len(want.Data) != 25+28+25 {
			t.Errorf("volume %d is %q, want %q", v, volume, want)
		}
	}
}

// holdPack holds what Pack answers against the slow reference.
func holdPack(t *testing.T, tree []api.File, k, m, size int) {
	t.Helper()
	want := slowVolumes(slowStream(tree), k, m, size)
	if l, e := salvage.Pack(tree, k, m, size); !slices.Equal(l, want) || e != api.OK {
		t.Errorf("Pack(%q, %d, %d, %d) = %q, %d, want %q", tree, k, m, size, l, e, want)
	}
}

func TestP6PackOfEdges(t *testing.T) {
	for _, tree := range edgeTrees() {
		for _, code := range [][2]int{{1, 0}, {1, 1}, {1, 11}, {3, 2}, {11, 1}, {12, 0}, {6, 6}} {
			for _, size := range []int{8, 64} {
				holdPack(t, tree, code[0], code[1], size)
			}
		}
	}
}

func TestP6PackOfAllCodes(t *testing.T) {
	r := rand.New(rand.NewSource(61))
	for k := 1; k <= 12; k++ {
		for m := 0; k+m <= 12; m++ {
			for size := 8; size <= 64; size += 8 {
				data := randomBlocks(r, 1, 150)
				holdPack(t, []api.File{file("a", data[0]), file("b/c", data[0][:7])}, k, m, size)
			}
		}
	}
}

// sized tells a tree whose stream has so many bytes: 5 to 205, or 1.
func sized(r *rand.Rand, length int) []api.File {
	if length == 1 {
		return nil
	}
	return []api.File{file("a", randomBlocks(r, 1, length-5)[0])}
}

// The stripes that there are, full to the last byte, one short of it, and one byte into the next.
func TestP6PackOfStreamsAroundTheEndOfAStripe(t *testing.T) {
	r := rand.New(rand.NewSource(62))
	for _, c := range []struct{ k, m, size int }{{1, 2, 8}, {2, 1, 8}, {3, 0, 16}, {1, 1, 64}, {12, 0, 8}, {3, 9, 64}} {
		stripe := c.k * c.size
		for _, length := range []int{stripe - 1, stripe, stripe + 1, 2*stripe - 1, 2 * stripe, 2*stripe + 1} {
			if length > 205 {
				continue
			}
			tree := sized(r, length)
			holdPack(t, tree, c.k, c.m, c.size)
			l, _ := salvage.Pack(tree, c.k, c.m, c.size)
			stripes := (length + stripe - 1) / stripe
			for _, volume := range l {
				if want := 25 + stripes*(c.size+20) + 25; len(volume.Data) != want {
					t.Errorf("%d bytes, stripes of %d: the volume has %d bytes, want %d", length, stripe, len(volume.Data), want)
				}
			}
		}
	}
}

func TestP6PackOfRandomTrees(t *testing.T) {
	r := rand.New(rand.NewSource(63))
	for range 200 {
		k := 1 + r.Intn(12)
		holdPack(t, randomTree(r), k, r.Intn(13-k), 8+8*r.Intn(8))
	}
}

// wrongPackings are k, m and size of which one at least is not that of a code.
func wrongPackings() [][3]int {
	var list [][3]int
	for _, c := range wrongCodes {
		list = append(list, [3]int{c[0], c[1], 8}, [3]int{c[0], c[1], 64}, [3]int{c[0], c[1], 12})
	}
	for _, size := range append([]int{-1, -8, -64, greatest, least, 1 << 62, greatest - 7, least + 8}, wrongSizes...) {
		list = append(list, [3]int{1, 0, size}, [3]int{1, 1, size}, [3]int{6, 6, size})
	}
	return list
}

// With a list that is no tree as well ErrArg is named first.
func TestP6PackRefusesNumbers(t *testing.T) {
	for _, c := range wrongPackings() {
		for _, files := range [][]api.File{nil, {file("a", "x")}, {file("", "")}, named("b", "a")} {
			if l, e := salvage.Pack(files, c[0], c[1], c[2]); len(l) != 0 || e != api.ErrArg {
				t.Errorf("Pack(%q, %v) = %q, %d, want ErrArg", files, c, l, e)
			}
		}
	}
}

func TestP6PackRefusesWhatIsNoTree(t *testing.T) {
	refuse := func(what string, files []api.File) {
		t.Helper()
		for _, c := range [][3]int{{1, 1, 8}, {12, 0, 64}, {1, 0, 8}, {3, 9, 64}} {
			if l, e := salvage.Pack(files, c[0], c[1], c[2]); len(l) != 0 || e != api.ErrTree {
				t.Errorf("%s: Pack(.., %v) = %q, %d, want ErrTree", what, c, l, e)
			}
		}
	}
	for _, name := range wrongNames {
		refuse(fmt.Sprintf("the name %q", name), []api.File{file(name, "x")})
	}
	for _, pair := range wrongPairs {
		refuse(fmt.Sprint(pair), named(pair[0], pair[1]))
	}
	refuse("long data", []api.File{file("a", strings.Repeat("x", 201))})
	refuse("nine files", named("a", "b", "c", "d", "e", "f", "g", "h", "i"))
	refuse("many files", slices.Repeat(named("a"), 1<<20))
	refuse("very long data", []api.File{file("a", strings.Repeat("x", 1<<24))})
}
