package archive

import (
	"slices"
	"strings"
	"testing"

	"salvage/api"
	"salvage/code"
	"salvage/sum"
)

func TestManifestOfText(t *testing.T) {
	x := describe(strings.Repeat("x", 1000), 3, 2, 24)
	if want := sum.Of("salvage\x03\x02\x03" + strings.Repeat("x", 1000)); x.key != want {
		t.Errorf("the key is %q, want %q", x.key, want)
	}
	if want := sealed("M\x03\x02\x03\x0e\x00\xe8\x03\x00" + x.key); x.text() != want || len(want) != 25 {
		t.Errorf("the manifest is %q, want %q", x.text(), want)
	}
	block := strings.Repeat("b", 24)
	if got, want := x.frame(11, 258, block), sealed("B\x0b\x02\x01"+x.key+block); got != want || len(got) != 24+20 {
		t.Errorf("the frame is %q, want %q", got, want)
	}
}

func TestStripeCount(t *testing.T) {
	for _, c := range []struct{ length, k, size, want int }{
		{0, 1, 8, 0}, {1, 1, 8, 1}, {8, 1, 8, 1}, {9, 1, 8, 2}, {2000, 1, 8, 250}, {768, 12, 64, 1}, {769, 12, 64, 2},
	} {
		if got := (manifest{k: c.k, size: c.size, length: c.length}).stripeCount(); got != c.want {
			t.Errorf("%d bytes in stripes of %d times %d: %d, want %d", c.length, c.k, c.size, got, c.want)
		}
	}
}

func TestVolumesOfNoBytes(t *testing.T) {
	text := describe("", 2, 1, 8).text()
	want := []api.File{{Name: "v00", Data: text + text}, {Name: "v01", Data: text + text}, {Name: "v02", Data: text + text}}
	if got := Volumes("", 2, 1, 8); !slices.Equal(got, want) {
		t.Errorf("the volumes of no bytes: %q, want %q", got, want)
	}
}

func TestDataBlocksAreFilledUp(t *testing.T) {
	bytes := strings.Repeat("x", 17)
	got := describe(bytes, 2, 1, 8).dataBlocks(bytes)
	full, last, empty := strings.Repeat("x", 8), "x"+strings.Repeat("\x00", 7), strings.Repeat("\x00", 8)
	want := [][]api.Block{{{Number: 0, Data: full}, {Number: 1, Data: full}}, {{Number: 0, Data: last}, {Number: 1, Data: empty}}}
	if !slices.EqualFunc(got, want, func(a, b []api.Block) bool { return slices.Equal(a, b) }) {
		t.Errorf("the data blocks: %#v, want %#v", got, want)
	}
}

// Whatever order the goroutines run in, each stripe's blocks stand in its place.
func TestStripesKeepTheirPlaces(t *testing.T) {
	bytes := make([]byte, api.MaxStream)
	for i := range bytes {
		bytes[i] = byte(i * i / 7)
	}
	for range 20 {
		x := describe(string(bytes), 1, 2, 8)
		stripes := x.dataBlocks(string(bytes))
		var shared, plans code.Plans
		all := x.complete(stripes, &shared)
		for s, have := range stripes {
			if want := plans.Complete(1, 2, have); !slices.Equal(all[s], want) {
				t.Fatalf("stripe %d: %q, want %q", s, all[s], want)
			}
		}
	}
}

func TestNames(t *testing.T) {
	for v, want := range []string{0: "v00", 1: "v01", 9: "v09", 10: "v10", 11: "v11"} {
		if got := nameOf(v); want != "" && got != want {
			t.Errorf("the name of volume %d is %q, want %q", v, got, want)
		}
	}
}
