package salvage_test

import (
	"fmt"
	"math/rand"
	"slices"
	"strings"
	"testing"

	"salvage/api"
	"salvage/salvage"
)

func TestP8VerifyOfTheExample(t *testing.T) {
	l := packed(t, nil, 1, 1, 8)
	a, b := l[0].Data, l[1].Data
	for _, c := range []struct {
		what, v00, v01, want string
	}{
		{"whole", a, b, "11"},
		{"the first byte turned", turned(a, 0), b, "11"},
		{"all manifests turned but one", turned(a, 0, 60), turned(b, 0), "11"},
		{"a byte of a frame turned", turned(a, 40), b, "01"},
		{"a byte of the other frame turned", a, turned(b, 52), "10"},
		{"both frames turned", turned(a, 25), turned(b, 25), "00"},
		{"one is lost", "", b, "01"},
		{"cut behind its frame", a[:53], b, "11"},
		{"cut in its frame", a[:52], b, "01"},
		{"the last manifest alone", a[53:], b, "01"},
		{"the last manifest alone, of the other", a, b[53:], "10"},
		{"each under the other's name", b, a, "00"},
		{"manifests alone", a[:25], b[53:], "00"},
	} {
		l := []api.File{file("v00", c.v00), file("v01", c.v01)}
		verifies(t, c.what, l, []string{c.want}, api.OK)
		holdFound(t, c.what, l)
	}
}

// Marks are those of all k + m volumes, whatever is in the list.
func TestP8VerifyOfVolumesThatAreLost(t *testing.T) {
	for _, c := range [][3]int{{1, 0, 8}, {12, 0, 64}, {1, 11, 8}, {6, 6, 16}, {2, 1, 8}} {
		k, m, size := c[0], c[1], c[2]
		l := packed(t, someTree(), k, m, size)
		stripes := (408 + k*size - 1) / (k * size)
		for v := range l {
			line := []byte(strings.Repeat("0", k+m))
			line[v] = '1'
			verifies(t, "one is left", l[v:v+1], slices.Repeat([]string{string(line)}, stripes), api.OK)
		}
		verifies(t, "whole", l, slices.Repeat([]string{strings.Repeat("1", k+m)}, stripes), api.OK)
	}
}

func TestP8VerifyOfNoBytes(t *testing.T) {
	l := slowVolumes("", 2, 2, 16)
	verifies(t, "no bytes", l, nil, api.OK)
	verifies(t, "a manifest alone", []api.File{file("v11", l[0].Data[:25])}, nil, api.OK)
}

// Whether the blocks make a stream, or any bytes, is not asked.
func TestP8VerifyAsksForBlocksAlone(t *testing.T) {
	key := slowKey(someStream, 1, 0, 8)
	verifies(t, "another key", alone(someStream, 1, 0, 1, 2, 10, key), []string{"1", "1"}, api.OK)
	verifies(t, "too few", alone(someStream, 1, 0, 1, 3, 17, key), []string{"1", "1", "0"}, api.OK)
	verifies(t, "a volume more", alone(someStream, 1, 1, 1, 2, 11, key), []string{"10", "10"}, api.OK)
	verifies(t, "no tree", slowVolumes("no tree at all", 1, 1, 8), []string{"11", "11"}, api.OK)
}

func TestP9RepairOfWholeVolumes(t *testing.T) {
	for what, tree := range edgeTrees() {
		for _, c := range [][3]int{{1, 0, 8}, {1, 11, 8}, {3, 2, 24}, {12, 0, 64}} {
			l := packed(t, tree, c[0], c[1], c[2])
			repairs(t, what, l, l, api.OK, 0)
		}
	}
}

func TestP9LostVolumesAreMadeAnew(t *testing.T) {
	for _, c := range [][3]int{{1, 1, 8}, {2, 2, 16}, {3, 2, 8}, {1, 3, 64}} {
		k, m := c[0], c[1]
		l := packed(t, someTree(), k, m, c[2])
		for set := 1; set < 1<<(k+m); set++ {
			if some := left(l, set); len(some) >= k {
				repairs(t, fmt.Sprintf("volumes %b", set), some, l, api.OK, 0)
			} else {
				refuses(t, fmt.Sprintf("volumes %b", set), some, api.ErrFew, 0)
			}
		}
	}
}

func TestP9VolumesWrittenOverAreMadeAnew(t *testing.T) {
	whole := packed(t, someTree(), 2, 2, 8)
	a, b := whole[0].Data, whole[1].Data
	for what, data := range map[string]string{
		"empty": "", "cut short": a[:500], "cut in a manifest": a[:20], "the last manifest alone": a[len(a)-25:], "longer": a + "more", "longer ahead": "more" + a, "another one": b, "noughts": strings.Repeat("\x00", len(a)), "no first manifest": strings.Repeat("x", 25) + a[25:], "no last manifest": a[:len(a)-25] + strings.Repeat("x", 25), "manifests in the middle": a[:300] + a[:25] + a[325:], "frames turned round": a[:25] + a[53:81] + a[25:53] + a[81:],
	} {
		for v := range 4 {
			repairs(t, what, with(whole, v, data), whole, api.OK, 0)
			repairs(t, what, with(with(whole, v, data), (v+1)%4, data), whole, api.OK, 0)
		}
	}
}

// The other files stand behind the volumes, all of them, in their order.
func TestP9OtherFilesAreKept(t *testing.T) {
	l := packed(t, []api.File{file("a", "data")}, 2, 1, 8)
	others := []api.File{file("v03", "no volume of these"), file("x", "one"), file("", ""), file("v12", l[0].Data), file("x", "two"), file("v11", l[0].Data[:25]), file("v0", "short"), file("v000", "long"), file("a", "data"), file("x", "one"), file("V00", "great"), file("v03", ""), file("\xff\x00", "\x00\xff")}
	want := slices.Concat(l, others)
	repairs(t, "behind the volumes", want, want, api.OK, 0)
	repairs(t, "ahead of the volumes", slices.Concat(others, l), want, api.OK, 0)
	repairs(t, "ahead of some", slices.Concat(others, l[1:]), want, api.OK, 0)
	var mixed []api.File
	for i, f := range others {
		// Each volume is there several times, the first time whole.
		mixed = append(mixed, f, file(l[i%3].Name, l[i%3].Data[:max(0, len(l[0].Data)-20*i)]))
	}
	repairs(t, "between the volumes", mixed, want, api.OK, 0)
	repairs(t, "others that are volumes of more", append(others[:1:1], l[:2]...), slices.Concat(l, others[:1]), api.OK, 0)
}

// Names that are those of volumes only where there are as many.
func TestP9NamesOfVolumesThatAreNone(t *testing.T) {
	for volumes := 1; volumes <= 12; volumes++ {
		l := packed(t, []api.File{file("a", "data")}, 1, volumes-1, 8)
		files, want := slices.Clone(l[:1]), slices.Clone(l)
		for v := 1; v <= 13; v++ {
			f := file(slowName(v), "")
			files = append(files, f)
			if v >= volumes {
				want = append(want, f)
			}
		}
		repairs(t, fmt.Sprintf("of %d volumes the first", volumes), files, want, api.OK, 0)
	}
}

func TestP9RepairOfBytesOfNoTree(t *testing.T) {
	for _, bytes := range []string{"", "\x09", "no tree at all", strings.Repeat("x", 2000)} {
		for _, c := range [][3]int{{1, 1, 8}, {3, 2, 16}, {1, 11, 64}, {12, 0, 8}} {
			l := slowVolumes(bytes, c[0], c[1], c[2])
			repairs(t, "no tree", l, l, api.OK, 0)
			repairs(t, "no tree, of the last k", l[c[1]:], l, api.OK, 0)
		}
	}
	l := slowVolumes("", 2, 2, 16)
	repairs(t, "no bytes, a manifest alone", []api.File{file("x", ""), file("v09", "?"+l[0].Data[:25])}, slices.Concat(l, []api.File{file("x", ""), file("v09", "?"+l[0].Data[:25])}), api.OK, 0)
}

// spoil does some damage to one of the files, if there is one.
func spoil(r *rand.Rand, files []api.File) []api.File {
	list := slices.Clone(files)
	if len(list) == 0 {
		return list
	}
	i, j := r.Intn(len(list)), r.Intn(len(list))
	data := list[i].Data
	switch r.Intn(9) {
	case 0:
		return slices.Delete(list, i, i+1)
	case 1:
		list[i].Data = data[:r.Intn(len(data)+1)]
	case 2:
		list[i].Data = data[r.Intn(len(data)+1):]
	case 3:
		list[i].Data += list[j].Data[:r.Intn(len(list[j].Data)+1)]
	case 4:
		list[i].Data = list[j].Data
	case 5:
		list[i], list[j] = list[j], list[i]
	case 6:
		return slices.Insert(list, i, list[j])
	default:
		for range r.Intn(4) {
			if len(data) > 0 {
				data = turned(data, r.Intn(len(data)))
			}
		}
		list[i].Data = data
	}
	return list
}

func TestP11WhateverHappensToTheVolumes(t *testing.T) {
	r := rand.New(rand.NewSource(111))
	counts := make(map[api.Errno]int)
	for range 1500 {
		k := 1 + r.Intn(5)
		m, size := r.Intn(5), 8+8*r.Intn(8)
		tree := randomTree(r)
		whole := packed(t, tree, k, m, size)
		files := whole
		for range r.Intn(3 * (m + 2)) {
			files = spoil(r, files)
		}
		x := holdFound(t, "spoilt", files)
		counts[x.e]++
		if x.e == api.OK && x.manifest == whole[0].Data[:25] {
			unpacks(t, "k good blocks of each stripe", files, tree, api.OK, 0)
			repairs(t, "k good blocks of each stripe", files, whole, api.OK, 0)
		}
	}
	if counts[api.OK] < 300 || counts[api.ErrFew] < 300 || counts[api.ErrManifest] < 10 {
		t.Errorf("too few of a kind: %v", counts)
	}
}

// A volume is repaired of others that were repaired themselves, and nothing is lost on the way.
func TestP11RepairAgainAndAgain(t *testing.T) {
	r := rand.New(rand.NewSource(112))
	tree := someTree()
	whole := packed(t, tree, 3, 3, 16)
	files := whole
	for range 50 {
		lost := slices.Clone(files)
		for _, v := range r.Perm(6)[:3] {
			lost[v].Data = lost[v].Data[:r.Intn(60)]
		}
		repaired, e, n := salvage.Repair(lost)
		if !slices.Equal(repaired, whole) || e != api.OK || n != 0 {
			t.Fatalf("Repair = %q, %d, %d", repaired, e, n)
		}
		files = repaired
	}
	unpacks(t, "repaired", files, tree, api.OK, 0)
}

// holdManifest says of what Unpack tells that it is a tree, and that its volumes have the manifest that counts.
func holdManifest(t *testing.T, what string, files []api.File) (told bool) {
	t.Helper()
	tree, e, _ := salvage.Unpack(files)
	if e != api.OK {
		return false
	}
	if !slowIsTree(tree) {
		t.Fatalf("%s: Unpack tells what is no tree: %q", what, tree)
	}
	x := slowFind(files)
	for _, f := range packed(t, tree, x.k, x.m, x.size) {
		if first, last := f.Data[:25], f.Data[len(f.Data)-25:]; first != x.manifest || last != x.manifest {
			t.Fatalf("%s: the manifest is %q, of what Unpack tells it is %q and %q", what, x.manifest, first, last)
		}
	}
	return true
}

// forged tells volumes of any bytes, with numbers that may be wrong here and there, whose sums are all right.
func forged(r *rand.Rand) []api.File {
	stream := []byte(slowStream(randomTree(r)))
	if r.Intn(3) == 0 {
		stream[r.Intn(min(len(stream), 12))] = byte(r.Intn(16))
	}
	bytes := string(stream)
	k := 1 + r.Intn(3)
	m, size := r.Intn(3), 8*(1+r.Intn(8))
	key := slowKey(bytes, k, m, size)
	length := len(bytes)
	numbers := []int{k, m, size / 8, (length + k*size - 1) / (k * size), length}
	if r.Intn(3) == 0 {
		numbers[r.Intn(5)] += r.Intn(5) - 2
	}
	letter := "MMMMMMMMMm"[r.Intn(10)]
	manifest := slowManifest(numbers[0], numbers[1], numbers[2], numbers[3], numbers[4], key)
	manifest = slowSealed(string(letter) + manifest[1:17])
	volumes := slowVolumes(bytes, k, m, size)
	for v, f := range volumes {
		volumes[v].Data = manifest + f.Data[25:len(f.Data)-25] + manifest
	}
	if s := r.Intn(numbers[3] + 5); s < (length+k*size-1)/(k*size) {
		frame := slowFrame(0, s, key, randomBlocks(r, 1, size)[0])
		volumes[0].Data = over(volumes[0].Data, frameAt(s, size), frame)
	}
	return volumes
}

func TestP12WhateverBytesThereAre(t *testing.T) {
	r := rand.New(rand.NewSource(121))
	told := 0
	counts := make(map[api.Errno]int)
	for range 2000 {
		files := forged(r)
		counts[holdFound(t, "forged", files).e]++
		if holdManifest(t, "forged", files) {
			told++
		}
		files = spoil(r, files)
		holdFound(t, "forged and spoilt", files)
		holdManifest(t, "forged and spoilt", files)
	}
	if told < 300 || counts[api.ErrStream] < 100 || counts[api.ErrManifest] < 100 || counts[api.ErrFew] < 20 {
		t.Errorf("too few of a kind: %d trees, %v", told, counts)
	}
}

func TestP12WholeVolumesHaveTheirManifest(t *testing.T) {
	for what, tree := range edgeTrees() {
		for _, c := range [][3]int{{1, 0, 8}, {1, 11, 64}, {5, 3, 40}, {12, 0, 8}} {
			if l := packed(t, tree, c[0], c[1], c[2]); !holdManifest(t, what, l) || !holdManifest(t, what, l[c[1]:]) {
				t.Errorf("%s: Unpack tells no tree", what)
			}
		}
	}
}

func TestP1NoPanicAtAnyFiles(t *testing.T) {
	r := rand.New(rand.NewSource(15))
	for range 20000 {
		var files []api.File
		for range r.Intn(4) {
			data := randomBlocks(r, 1, []int{0, 1, 24, 25, 26, 50, 78, 200}[r.Intn(8)])[0]
			if r.Intn(2) == 0 {
				// A right sum over anything, so that the numbers are read.
				data += slowSealed("M" + string([]byte{byte(r.Intn(14)), byte(r.Intn(14)), byte(r.Intn(10)), byte(r.Intn(3)), 0, byte(r.Intn(9)), 0, 0}) + "anything")
			}
			files = append(files, file(slowName(r.Intn(13)), data))
		}
		holdFound(t, "anything", files)
	}
}
