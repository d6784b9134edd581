package salvage_test

import (
	"math/rand"
	"slices"
	"strings"
	"testing"

	"salvage/api"
	"salvage/salvage"
)

// Means by which the tests of P7 to P12 damage, forge and read volumes.

// unpacks holds what Unpack answers against what is told here.
func unpacks(t *testing.T, what string, files, tree []api.File, e api.Errno, n int) {
	t.Helper()
	if l, gotError, got := salvage.Unpack(files); !slices.Equal(l, tree) || gotError != e || got != n {
		t.Errorf("%s: Unpack = %q, %d, %d, want %q, %d, %d", what, l, gotError, got, tree, e, n)
	}
}

func verifies(t *testing.T, what string, files []api.File, marks []string, e api.Errno) {
	t.Helper()
	if l, got := salvage.Verify(files); !slices.Equal(l, marks) || got != e {
		t.Errorf("%s: Verify = %q, %d, want %q, %d", what, l, got, marks, e)
	}
}

func repairs(t *testing.T, what string, files, repaired []api.File, e api.Errno, n int) {
	t.Helper()
	if l, gotError, got := salvage.Repair(files); !slices.Equal(l, repaired) || gotError != e || got != n {
		t.Errorf("%s: Repair = %q, %d, %d, want %q, %d, %d", what, l, gotError, got, repaired, e, n)
	}
}

// refuses says that Unpack and Repair answer this error and this number.
func refuses(t *testing.T, what string, files []api.File, e api.Errno, n int) {
	t.Helper()
	unpacks(t, what, files, nil, e, n)
	repairs(t, what, files, nil, e, n)
}

// holdFound holds what the calls answer of a list of files against the slow reference, and tells that.
func holdFound(t *testing.T, what string, files []api.File) slowFound {
	t.Helper()
	x := slowFind(files)
	if x.manifest == "" {
		verifies(t, what, files, nil, api.ErrManifest)
	} else {
		verifies(t, what, files, x.marks, api.OK)
	}
	if x.e != api.OK {
		refuses(t, what, files, x.e, x.stripe)
		return x
	}
	repairs(t, what, files, x.slowRepaired(files), api.OK, 0)
	tree, place, ok := slowTree(x.bytes)
	if ok {
		unpacks(t, what, files, tree, api.OK, 0)
	} else {
		unpacks(t, what, files, nil, api.ErrTree, place)
	}
	return x
}

// packed tells the volumes of a tree.
func packed(t *testing.T, tree []api.File, k, m, size int) []api.File {
	t.Helper()
	l, e := salvage.Pack(tree, k, m, size)
	if e != api.OK || len(l) != k+m {
		t.Fatalf("Pack(%q, %d, %d, %d) = %d files, %d", tree, k, m, size, len(l), e)
	}
	return l
}

// turned tells bytes of which those at these places are others.
func turned(s string, places ...int) string {
	bytes := []byte(s)
	for _, p := range places {
		bytes[p] ^= 0x55
	}
	return string(bytes)
}

// with tells a list in which the file number i has other data.
func with(files []api.File, i int, data string) []api.File {
	list := slices.Clone(files)
	list[i].Data = data
	return list
}

// over tells bytes of which those from a place on are written over.
func over(s string, place int, piece string) string {
	return s[:place] + piece + s[place+len(piece):]
}

// frameAt tells where the frame of a stripe begins, if blocks have this size.
func frameAt(stripe, size int) int { return 25 + stripe*(size+20) }

// damaged tells volumes of which the blocks that the marks call lost have a wrong byte each.
func damaged(r *rand.Rand, volumes []api.File, marks []string, size int) []api.File {
	list := slices.Clone(volumes)
	for s, line := range marks {
		for v := range line {
			if line[v] == '0' {
				list[v].Data = turned(list[v].Data, frameAt(s, size)+r.Intn(size+20))
			}
		}
	}
	return list
}

// someTree tells a tree whose stream has 408 bytes: of stripes of 16 bytes 26, and the last one is not full.
func someTree() []api.File {
	r := rand.New(rand.NewSource(70))
	data := randomBlocks(r, 3, 200)
	return []api.File{file("a", data[0]), file("b/c", data[1][:188]), file("b/d", "")}
}

// alone tells the one volume of an archive of k 1, m 0, size 8, whose manifest says these numbers.
func alone(bytes string, k, m, eighths, stripes, length int, key string) []api.File {
	manifest := slowManifest(k, m, eighths, stripes, length, key)
	data := manifest
	for s := 0; 8*s < len(bytes); s++ {
		block := bytes[8*s : min(8*s+8, len(bytes))]
		data += slowFrame(0, s, key, block+strings.Repeat("\x00", 8-len(block)))
	}
	return []api.File{file("v00", data+manifest)}
}
