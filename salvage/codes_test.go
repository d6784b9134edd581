package salvage_test

import (
	"math/bits"
	"math/rand"
	"slices"
	"strings"
	"testing"

	"salvage/api"
	"salvage/salvage"
)

func TestP4EncodeOfExamples(t *testing.T) {
	one, nought := "\x01\x00\x00\x00\x00\x00\x00\x00", "\x00\x00\x00\x00\x00\x00\x00\x00"
	for _, c := range []struct {
		m    int
		data []string
		want []string
	}{
		{1, []string{"abcdefgh"}, []string{"abcdefgh"}},
		{0, []string{"abcdefgh"}, nil},
		// Of a lone bit in packet 0 the packets tell the bits of the factors: 142 and 244.
		{1, []string{one, nought}, []string{"\x00\x01\x01\x01\x00\x00\x00\x01"}},
		{1, []string{nought, one}, []string{"\x00\x00\x01\x00\x01\x01\x01\x01"}},
		{1, []string{one, one}, []string{"\x00\x01\x00\x01\x01\x01\x01\x00"}},
	} {
		if got, e := salvage.Encode(c.m, c.data); !slices.Equal(got, c.want) || e != api.OK {
			t.Errorf("Encode(%d, %q) = %q, %d, want %q", c.m, c.data, got, e, c.want)
		}
	}
}

func TestP4EncodeOfAllCodes(t *testing.T) {
	r := rand.New(rand.NewSource(4))
	for k := 1; k <= 12; k++ {
		for m := 0; k+m <= 12; m++ {
			for size := 8; size <= 64; size += 8 {
				data := randomBlocks(r, k, size)
				if got, e := salvage.Encode(m, data); !slices.Equal(got, slowEncode(m, data)) || e != api.OK {
					t.Fatalf("Encode(%d, %q) = %q, %d, want %q", m, data, got, e, slowEncode(m, data))
				}
			}
		}
	}
}

// wrongCodes are k and m of which there is no code.
var wrongCodes = [][2]int{{0, 0}, {0, 1}, {-1, 1}, {-1, 2}, {1, -1}, {2, -1}, {1, 12}, {12, 1}, {13, 0}, {13, -1}, {6, 7}, {1, greatest}, {greatest, 1}, {greatest, greatest}, {least, least}, {1, least}, {least, 1}, {greatest, least}, {1 << 62, 1 << 62}, {1 << 32, 0}, {1, 1 << 32}, {256, 0}, {257, 0}, {1, 256}}

// wrongSizes are sizes that no block has.
var wrongSizes = []int{0, 1, 4, 7, 9, 12, 20, 60, 63, 65, 68, 72, 80, 128, 264, 1 << 16, 1<<16 + 8}

func TestP4EncodeRefuses(t *testing.T) {
	refuse := func(m int, data []string) {
		t.Helper()
		if got, e := salvage.Encode(m, data); len(got) != 0 || e != api.ErrArg {
			t.Errorf("Encode(%d, %d blocks) = %q, %d, want ErrArg", m, len(data), got, e)
		}
	}
	refuse(0, nil)
	refuse(1, []string{})
	refuse(0, []string{""})
	for _, c := range wrongCodes {
		if k, m := c[0], c[1]; k >= 0 && k < 1<<20 {
			refuse(m, noughts(k, 8))
		}
	}
	for _, size := range wrongSizes {
		refuse(0, noughts(1, size))
		refuse(1, noughts(1, size))
		refuse(1, noughts(3, size))
	}
	for _, k := range []int{2, 3, 12} {
		for odd := range k {
			for _, size := range []int{0, 8, 15, 17, 24, 64} {
				data := noughts(k, 16)
				data[odd] = strings.Repeat("x", size)
				refuse(0, data)
			}
		}
	}
}

// everyPattern calls f with each k and m of a code and each choice of k blocks.
func everyPattern(f func(k, m int, numbers []int)) {
	for n := 1; n <= 12; n++ {
		for set := 1; set < 1<<n; set++ {
			var numbers []int
			for i := range n {
				if set>>i&1 == 1 {
					numbers = append(numbers, i)
				}
			}
			k := bits.OnesCount(uint(set))
			f(k, n-k, numbers)
		}
	}
}

func TestP4RebuildOfEveryPattern(t *testing.T) {
	r := rand.New(rand.NewSource(5))
	codes := make(map[[2]int][]string)
	for k := 1; k <= 12; k++ {
		for m := 0; k+m <= 12; m++ {
			data := randomBlocks(r, k, 8+8*((k+m)%8))
			codes[[2]int{k, m}] = append(data, slowEncode(m, data)...)
		}
	}
	everyPattern(func(k, m int, numbers []int) {
		all := codes[[2]int{k, m}]
		r.Shuffle(k, func(i, j int) { numbers[i], numbers[j] = numbers[j], numbers[i] })
		if got, e := salvage.Rebuild(k, m, chosen(all, numbers...)); !slices.Equal(got, all) || e != api.OK {
			t.Fatalf("Rebuild(%d, %d, blocks %v) = %q, %d, want %q", k, m, numbers, got, e, all)
		}
	})
}

func TestP4RebuildOfAllSizes(t *testing.T) {
	r := rand.New(rand.NewSource(6))
	for size := 8; size <= 64; size += 8 {
		for _, c := range [][2]int{{1, 0}, {12, 0}, {1, 11}, {11, 1}, {6, 6}, {2, 1}} {
			k, m := c[0], c[1]
			data := randomBlocks(r, k, size)
			all := append(data, slowEncode(m, data)...)
			numbers := r.Perm(k + m)[:k]
			if got, e := salvage.Rebuild(k, m, chosen(all, numbers...)); !slices.Equal(got, all) || e != api.OK {
				t.Errorf("Rebuild(%d, %d, blocks %v of %d) = %q, %d, want %q", k, m, numbers, size, got, e, all)
			}
		}
	}
}

// The first k blocks of the list count, in its order: not those with the lowest numbers, and nothing behind them.
func TestP4RebuildTakesTheFirst(t *testing.T) {
	r := rand.New(rand.NewSource(7))
	for range 500 {
		k := 1 + r.Intn(11)
		m := 1 + r.Intn(12-k)
		size := 8 + 8*r.Intn(8)
		data := randomBlocks(r, k, size)
		all := append(data, slowEncode(m, data)...)
		have := chosen(all, r.Perm(k + m)[:k+1+r.Intn(m)]...)
		for i := k; i < len(have); i++ {
			have[i].Data = randomBlocks(r, 1, size)[0]
		}
		if got, e := salvage.Rebuild(k, m, have); !slices.Equal(got, all) || e != api.OK {
			t.Fatalf("Rebuild(%d, %d, %#v) = %q, %d, want %q", k, m, have, got, e, all)
		}
	}
}

// Any k blocks whatever are those of a code.
func TestP4RebuildOfAnyBlocks(t *testing.T) {
	r := rand.New(rand.NewSource(8))
	for range 300 {
		k := 1 + r.Intn(12)
		m := r.Intn(13 - k)
		size := 8 + 8*r.Intn(8)
		have := chosen(randomBlocks(r, k+m, size), r.Perm(k + m)[:k]...)
		got, e := salvage.Rebuild(k, m, have)
		if e != api.OK || len(got) != k+m {
			t.Fatalf("Rebuild(%d, %d, %#v) = %q, %d", k, m, have, got, e)
		}
		for _, b := range have {
			if got[b.Number] != b.Data {
				t.Fatalf("Rebuild(%d, %d, %#v): block %d is %q", k, m, have, b.Number, got[b.Number])
			}
		}
		if want := slowEncode(m, got[:k]); !slices.Equal(got[k:], want) {
			t.Fatalf("Rebuild(%d, %d, %#v): further blocks %q, of its data blocks they are %q", k, m, have, got[k:], want)
		}
	}
}

func refuseRebuild(t *testing.T, k, m int, have []api.Block, want api.Errno) {
	t.Helper()
	if got, e := salvage.Rebuild(k, m, have); len(got) != 0 || e != want {
		t.Errorf("Rebuild(%d, %d, %d blocks) = %q, %d, want %d", k, m, len(have), got, e, want)
	}
}

func TestP4RebuildRefusesCodes(t *testing.T) {
	refuseRebuild(t, 1, 1, nil, api.ErrArg)
	refuseRebuild(t, 1, 0, []api.Block{}, api.ErrArg)
	for _, c := range wrongCodes {
		k, m := c[0], c[1]
		refuseRebuild(t, k, m, nil, api.ErrArg)
		refuseRebuild(t, k, m, chosen(noughts(1, 8), 0), api.ErrArg)
		refuseRebuild(t, k, m, chosen(noughts(13, 8), 0, 1, 2, 3, 4, 5, 6, 7, 8, 9, 10, 11, 12), api.ErrArg)
	}
	for _, size := range wrongSizes {
		refuseRebuild(t, 1, 0, chosen(noughts(1, size), 0), api.ErrArg)
		refuseRebuild(t, 2, 1, chosen(noughts(3, size), 2, 0), api.ErrArg)
		refuseRebuild(t, 2, 1, chosen(noughts(3, size), 2), api.ErrArg)
	}
}

func TestP4RebuildRefusesBlocks(t *testing.T) {
	all := noughts(12, 16)
	for _, number := range append([]int{3, 4, 12}, outside...) {
		for place := range 3 {
			have := chosen(all, 0, 1, 2)
			have[place].Number = number
			refuseRebuild(t, 2, 1, have, api.ErrArg)
			refuseRebuild(t, 2, 1, have[place:place+1], api.ErrArg)
		}
	}
	refuseRebuild(t, 6, 6, []api.Block{at(12, all[0])}, api.ErrArg)
	for _, numbers := range [][]int{{0, 0}, {0, 1, 0}, {0, 1, 1}, {2, 2, 1}, {0, 1, 2, 2}, {0, 1, 2, 0}} {
		refuseRebuild(t, 2, 1, chosen(all, numbers...), api.ErrArg)
	}
	for place := range 3 {
		for _, size := range []int{0, 8, 15, 17, 24, 64, 72} {
			have := chosen(all, 2, 0, 1)
			have[place].Data = strings.Repeat("x", size)
			refuseRebuild(t, 2, 1, have, api.ErrArg)
		}
	}
}

func TestP4RebuildOfTooFew(t *testing.T) {
	for k := 2; k <= 12; k++ {
		for m := 0; k+m <= 12; m++ {
			all := noughts(k+m, 8)
			for n := 1; n < k; n++ {
				var have []api.Block
				for i := range n {
					have = append(have, at(k+m-1-i, all[i]))
				}
				refuseRebuild(t, k, m, have, api.ErrFew)
			}
		}
	}
}

// Where both apply, ErrArg is named first.
func TestP1RebuildTellsTheErrorNamedFirst(t *testing.T) {
	all := noughts(12, 8)
	refuseRebuild(t, 3, 1, []api.Block{at(4, all[0])}, api.ErrArg)
	refuseRebuild(t, 3, 1, []api.Block{at(-1, all[0])}, api.ErrArg)
	refuseRebuild(t, 3, 1, chosen(all, 1, 1), api.ErrArg)
	refuseRebuild(t, 3, 1, []api.Block{at(0, all[0]), at(1, all[1]+all[1])}, api.ErrArg)
	refuseRebuild(t, 3, 1, []api.Block{at(0, "abc")}, api.ErrArg)
	refuseRebuild(t, 3, 10, chosen(all, 1), api.ErrArg)
}
