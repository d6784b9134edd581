package archive

import (
	"slices"
	"strings"

	"salvage/api"
	"salvage/code"
	"salvage/raw"
)

// Found is what is found in a list of files.
type Found struct {
	manifest               // the one that counts
	good     [][]api.Block // of each stripe, by volumes
	plans    code.Plans    // shared by all that is made of it
}

// Find tells what is found in a list of files, if there is a good manifest.
func Find(files []api.File) (*Found, bool) {
	data := dataOfVolumes(files)
	counts, ok := firstManifest(data)
	if !ok {
		return nil, false
	}
	x := &Found{manifest: counts, good: make([][]api.Block, counts.stripeCount())}
	sideBySide(len(x.good), func(s int) { x.good[s] = x.goodBlocks(data, s) })
	return x, true
}

// dataOfVolumes tells the data of each volume that there may be, none of one that is missing: a volume without data tells as little.
func dataOfVolumes(files []api.File) [api.MaxVolumes]string {
	var data [api.MaxVolumes]string
	for v := range data {
		name := nameOf(v)
		if i := slices.IndexFunc(files, func(f api.File) bool { return f.Name == name }); i >= 0 {
			data[v] = files[i].Data
		}
	}
	return data
}

// firstManifest tells the manifest that counts, if there is one.
func firstManifest(data [api.MaxVolumes]string) (manifest, bool) {
	for _, d := range data {
		for _, place := range [...]int{0, len(d) - manifestSize} {
			if x, ok := manifestAt(d, place); ok {
				return x, true
			}
		}
	}
	return manifest{}, false
}

// manifestAt tells the good manifest at a place, if there is one.
func manifestAt(data string, place int) (x manifest, ok bool) {
	defer func() {
		if _, gaveUp := raw.Caught(recover()); gaveUp {
			x, ok = manifest{}, false
		}
	}()
	return readManifest(raw.NewReaderAt(data, place)), true
}

// goodBlocks tells those of a stripe, by volumes.
func (x manifest) goodBlocks(data [api.MaxVolumes]string, stripe int) []api.Block {
	var good []api.Block
	for v, d := range data[:x.k+x.m] {
		if block, ok := x.blockOn(d, v, stripe); ok {
			good = append(good, api.Block{Number: v, Data: block})
		}
	}
	return good
}

// blockOn tells the block that a stripe has on a volume of these data, if it is good.
func (x manifest) blockOn(data string, volume, stripe int) (block string, ok bool) {
	defer func() {
		if _, gaveUp := raw.Caught(recover()); gaveUp {
			block, ok = "", false
		}
	}()
	return x.readFrame(raw.NewReaderAt(data, x.frameAt(stripe)), volume, stripe), true
}

// Marks tells for each stripe which of its blocks are good.
func (x *Found) Marks() []string {
	marks := make([]string, len(x.good))
	for s, blocks := range x.good {
		line := []byte(strings.Repeat("0", x.k+x.m))
		for _, b := range blocks {
			line[b.Number] = '1'
		}
		marks[s] = string(line)
	}
	return marks
}

// Bytes tells the bytes that were archived; with ErrFew the first stripe that has too few good blocks.
func (x *Found) Bytes() (string, api.Errno, int) {
	few := func(blocks []api.Block) bool { return len(blocks) < x.k }
	if s := slices.IndexFunc(x.good, few); s >= 0 {
		return "", api.ErrFew, s
	}
	var filled strings.Builder
	for _, blocks := range x.complete(x.good, &x.plans) {
		for _, b := range blocks[:x.k] {
			filled.WriteString(b)
		}
	}
	bytes := filled.String()[:x.length]
	if describe(bytes, x.k, x.m, x.size) != x.manifest {
		return "", api.ErrStream, 0
	}
	return bytes, api.OK, 0
}

// Repaired tells the volumes of these bytes, which Bytes told, and behind them copies of all other files of the list.
// The volumes are written of the bytes, not of the blocks that were found: these may be filled up with something else than noughts.
func (x *Found) Repaired(bytes string, files []api.File) []api.File {
	volumes := x.volumes(bytes, &x.plans)
	return append(volumes, others(files, volumes)...)
}

// others tells copies of the files whose names are not those of the volumes.
func others(files, volumes []api.File) []api.File {
	var list []api.File
	for _, f := range files {
		if !slices.ContainsFunc(volumes, func(v api.File) bool { return v.Name == f.Name }) {
			list = append(list, api.File{Name: strings.Clone(f.Name), Data: strings.Clone(f.Data)})
		}
	}
	return list
}
