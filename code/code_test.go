package code

import (
	"slices"
	"sync"
	"testing"

	"salvage/api"
	"salvage/field"
)

func TestFits(t *testing.T) {
	const greatest = int(^uint(0) >> 1)
	for _, c := range []struct {
		k, m, size int
		want       bool
	}{
		{1, 0, 8, true}, {12, 0, 64, true}, {1, 11, 8, true}, {6, 6, 40, true},
		{0, 1, 8, false}, {-1, 3, 8, false}, {1, -1, 8, false}, {12, 1, 8, false}, {13, -1, 8, false}, {13, 0, 8, false}, {1, 12, 8, false},
		{1, 1, 0, false}, {1, 1, -8, false}, {1, 1, 12, false}, {1, 1, 63, false}, {1, 1, 72, false},
		{greatest, greatest, 8, false}, {greatest, -greatest, 8, false}, {1, greatest, 8, false}, {1, -greatest - 1, 8, false}, {1, 1, greatest, false}, {1, 1, -greatest - 1, false},
	} {
		if got := Fits(c.k, c.m, c.size); got != c.want {
			t.Errorf("Fits(%d, %d, %d) = %t", c.k, c.m, c.size, got)
		}
	}
}

func TestSound(t *testing.T) {
	eight, sixteen := "abcdefgh", "abcdefghijklmnop"
	for _, c := range []struct {
		have []api.Block
		want bool
	}{
		{[]api.Block{{Number: 2, Data: eight}}, true},
		{[]api.Block{{Number: 2, Data: eight}, {Number: 0, Data: eight}, {Number: 1, Data: eight}}, true},
		{nil, false},
		{[]api.Block{{Number: 3, Data: eight}}, false},
		{[]api.Block{{Number: -1, Data: eight}}, false},
		{[]api.Block{{Number: 0, Data: eight}, {Number: 0, Data: eight}}, false},
		{[]api.Block{{Number: 0, Data: eight}, {Number: 1, Data: sixteen}}, false},
		{[]api.Block{{Number: 0, Data: "abc"}}, false},
	} {
		if got := Sound(2, 1, c.have); got != c.want {
			t.Errorf("Sound(2, 1, %v) = %t", c.have, got)
		}
	}
}

func patternOf(k, m int, there ...int) pattern {
	key := pattern{k: k, m: m}
	for _, number := range there {
		key.there[number] = true
	}
	return key
}

func TestPlanAddsPackets(t *testing.T) {
	// The further block is the one data block, packet by packet.
	var want plan
	for i := range packets {
		want = append(want, step{from: i, to: packets + i})
	}
	if got := makePlan(patternOf(1, 1, 0)); !slices.Equal(got, want) {
		t.Errorf("the plan of a copy: %v, want %v", got, want)
	}
	if got := makePlan(patternOf(3, 0, 0, 1, 2)); len(got) != 0 {
		t.Errorf("the plan where nothing is missing: %v", got)
	}
}

func TestPlanReadsOnlyWhatIsThere(t *testing.T) {
	key := patternOf(3, 4, 1, 4, 6)
	for _, s := range makePlan(key) {
		if !key.there[s.from/packets] || key.there[s.to/packets] || s.to >= 7*packets {
			t.Errorf("step %v: from a block that is missing, or to one that is not", s)
		}
	}
}

func TestPlansAreMadeOnce(t *testing.T) {
	var plans Plans
	blocks := []api.Block{{Number: 0, Data: "abcdefgh"}, {Number: 2, Data: "ijklmnop"}, {Number: 1, Data: "qrstuvwx"}}
	same := []api.Block{blocks[1], blocks[0], blocks[2]}
	plans.Complete(2, 1, blocks)
	plans.Complete(2, 1, same)
	if len(plans.made) != 1 {
		t.Errorf("%d plans for one pattern", len(plans.made))
	}
	first := plans.of(patternOf(2, 1, 0, 2))
	if again := plans.of(patternOf(2, 1, 0, 2)); &first[0] != &again[0] {
		t.Error("the plan was made anew")
	}
	plans.Complete(2, 2, blocks)
	plans.Complete(2, 1, blocks[1:])
	plans.Complete(1, 2, blocks)
	if len(plans.made) != 4 {
		t.Errorf("%d plans for four patterns", len(plans.made))
	}
}

func TestPlansAreShared(t *testing.T) {
	var plans, alone Plans
	blocks := []api.Block{{Number: 3, Data: "abcdefgh"}, {Number: 2, Data: "ijklmnop"}, {Number: 1, Data: "qrstuvwx"}}
	var group sync.WaitGroup
	for i := range 40 {
		k := 1 + i%3
		want := alone.Complete(k, 5-k, blocks)
		group.Go(func() {
			if got := plans.Complete(k, 5-k, blocks); !slices.Equal(got, want) {
				t.Errorf("Complete(%d, %d) = %q, want %q", k, 5-k, got, want)
			}
		})
	}
	group.Wait()
	if len(plans.made) != 3 {
		t.Errorf("%d plans for three patterns", len(plans.made))
	}
}

func TestInverseOfMatrix(t *testing.T) {
	for _, c := range [][]int{{0, 1, 2}, {1, 2, 3}, {0, 2, 5}, {3, 4, 5}, {2, 1, 0}, {8, 1, 4}} {
		got := product(inverse(rowsOf(c, 3)), rowsOf(c, 3))
		for i, row := range got {
			for j, n := range row {
				if (i == j) != (n == 1) || n > 1 {
					t.Fatalf("rows of the blocks %v: the inverse times them is %v", c, got)
				}
			}
		}
	}
}

func TestBitsDoWhatNumbersDo(t *testing.T) {
	for a := range 256 {
		bits := bitsOf(matrix{{byte(a)}})
		for b := range 256 {
			image := byte(0)
			for i, row := range bits {
				for j, bit := range row {
					if bit {
						image ^= byte(b>>j&1) << i
					}
				}
			}
			if want := field.Times(byte(a), byte(b)); image != want {
				t.Fatalf("the bits of %d make %d of %d, want %d", a, image, b, want)
			}
		}
	}
}
