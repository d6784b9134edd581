package archive

import (
	"slices"
	"strings"
	"testing"

	"salvage/api"
	"salvage/raw"
	"salvage/sum"
)

func TestManifestAt(t *testing.T) {
	for _, want := range []manifest{describe("", 1, 0, 8), describe("some bytes", 2, 3, 8), describe(strings.Repeat("x", 2000), 12, 0, 64), describe(strings.Repeat("x", 2000), 1, 11, 8)} {
		text := want.text()
		for ahead := range 3 {
			data := strings.Repeat("?", ahead) + text + "?"
			if x, ok := manifestAt(data, ahead); !ok || x != want {
				t.Errorf("the manifest %q is %+v, %t, want %+v", text, x, ok, want)
			}
			for _, place := range []int{ahead - 1, ahead + 1, len(data), len(data) + 1, -25, -1} {
				if x, ok := manifestAt(data, place); ok || x != (manifest{}) {
					t.Errorf("at %d of %q there is a manifest: %+v", place, data, x)
				}
			}
		}
	}
}

// The numbers of a manifest are asked even where its sum is right.
func TestManifestsThatMayNotBe(t *testing.T) {
	for _, c := range []struct{ k, m, eighths, stripes, length int }{
		{0, 1, 1, 0, 0}, {13, 0, 1, 0, 0}, {1, 12, 1, 0, 0}, {12, 1, 1, 0, 0}, {1, 0, 0, 0, 0}, {1, 0, 9, 0, 0}, {1, 0, 1, 1, 0}, {1, 0, 1, 0, 1}, {1, 0, 1, 2, 8}, {1, 0, 1, 1, 9}, {1, 0, 1, 251, 2001}, {1, 0, 1, 0, 1 << 16},
	} {
		numbers := raw.Bytes(c.k, 1) + raw.Bytes(c.m, 1) + raw.Bytes(c.eighths, 1) + raw.Bytes(c.stripes, 2) + raw.Bytes(c.length, 3)
		if x, ok := manifestAt(sealed("M"+numbers+"keykey77"), 0); ok {
			t.Errorf("a good manifest of %v: %+v", c, x)
		}
	}
	if x, ok := manifestAt(sealed("B"+describe("", 1, 0, 8).text()[1:17]), 0); ok {
		t.Errorf("a good manifest of another letter: %+v", x)
	}
}

func TestBlockOn(t *testing.T) {
	x := describe("sixteen bytes ..", 1, 1, 8)
	volumes := Volumes("sixteen bytes ..", 1, 1, 8)
	for v, f := range volumes {
		for s, want := range []string{"sixteen ", "bytes .."} {
			if got, ok := x.blockOn(f.Data, v, s); !ok || got != want {
				t.Errorf("block %d of stripe %d: %q, %t, want %q", v, s, got, ok, want)
			}
			if got, ok := x.blockOn(f.Data, 1-v, s); ok || got != "" {
				t.Errorf("block %d of stripe %d is good on another volume: %q", v, s, got)
			}
			if got, ok := x.blockOn(f.Data[:x.frameAt(s+1)-1], v, s); ok || got != "" {
				t.Errorf("block %d of stripe %d is good where its frame is cut: %q", v, s, got)
			}
		}
		if got, ok := x.blockOn(f.Data, v, 2); ok {
			t.Errorf("a block of a stripe that is not: %q", got)
		}
	}
}

func TestFirstOfANameIsTaken(t *testing.T) {
	files := []api.File{{Name: "v01", Data: ""}, {Name: "v11", Data: "b"}, {Name: "x", Data: "c"}, {Name: "v01", Data: "d"}, {Name: "v12", Data: "e"}, {Name: "v00", Data: "f"}}
	want := [api.MaxVolumes]string{0: "f", 11: "b"}
	if got := dataOfVolumes(files); got != want {
		t.Errorf("the data of the volumes: %q, want %q", got, want)
	}
}

// The bytes, the volumes and the marks of one list, of which a volume is lost.
func TestFound(t *testing.T) {
	bytes := strings.Repeat("x", 160)
	volumes := Volumes(bytes, 2, 1, 8)
	x, ok := Find(volumes[1:])
	if !ok {
		t.Fatal("nothing is found")
	}
	if got, e, stripe := x.Bytes(); got != bytes || e != api.OK || stripe != 0 {
		t.Errorf("the bytes are %q, %d, %d", got, e, stripe)
	}
	if got := x.Repaired(bytes, volumes[1:]); !slices.Equal(got, volumes) {
		t.Errorf("repaired: %q, want %q", got, volumes)
	}
	if want := slices.Repeat([]string{"011"}, 10); !slices.Equal(x.Marks(), want) {
		t.Errorf("the marks are %q, want %q", x.Marks(), want)
	}
}

func TestUnsealed(t *testing.T) {
	s := "some text"
	unsealed(raw.NewReader(s+sum.Of(s)+"more"), len(s)+8).Expect(s)
	for _, wrong := range []string{s, s + sum.Of(s)[:7], s + sum.Of("another"), "S" + s[1:] + sum.Of(s)} {
		func() {
			defer func() {
				if _, gaveUp := raw.Caught(recover()); !gaveUp {
					t.Errorf("%q has no wrong sum", wrong)
				}
			}()
			unsealed(raw.NewReader(wrong), len(s)+8)
		}()
	}
}
