// Package archive: bytes on k + m volumes.
package archive

import (
	"strings"
	"sync"

	"salvage/api"
	"salvage/code"
)

// Volumes tells the volumes of the archive of these bytes; k, m and size must be those of a code.
func Volumes(bytes string, k, m, size int) []api.File {
	var plans code.Plans
	return describe(bytes, k, m, size).volumes(bytes, &plans)
}

// volumes tells those of the archive of these bytes, which must be the bytes of this manifest.
func (x manifest) volumes(bytes string, plans *code.Plans) []api.File {
	stripes := x.complete(x.dataBlocks(bytes), plans)
	volumes := make([]api.File, x.k+x.m)
	for v := range volumes {
		volumes[v] = api.File{Name: nameOf(v), Data: x.volume(v, stripes)}
	}
	return volumes
}

// dataBlocks tells those of each stripe.
func (x manifest) dataBlocks(bytes string) [][]api.Block {
	stripes, size := make([][]api.Block, x.stripeCount()), x.stripeSize()
	filled := bytes + strings.Repeat("\x00", len(stripes)*size-len(bytes))
	for s := range stripes {
		stripes[s] = cut(filled[s*size:(s+1)*size], x.size)
	}
	return stripes
}

// cut tells the data blocks of one stripe.
func cut(stripe string, size int) []api.Block {
	blocks := make([]api.Block, len(stripe)/size)
	for i := range blocks {
		blocks[i] = api.Block{Number: i, Data: stripe[i*size : (i+1)*size]}
	}
	return blocks
}

// complete tells all k + m blocks of each stripe, made of the first k that are there.
func (x manifest) complete(stripes [][]api.Block, plans *code.Plans) [][]string {
	all := make([][]string, len(stripes))
	sideBySide(len(stripes), func(s int) { all[s] = plans.Complete(x.k, x.m, stripes[s]) })
	return all
}

// sideBySide works so many stripes out, each by a goroutine, and ends when all of these have.
func sideBySide(stripes int, work func(s int)) {
	var group sync.WaitGroup
	for s := range stripes {
		group.Go(func() { work(s) })
	}
	group.Wait()
}

// volume tells the data of the volume number v.
func (x manifest) volume(v int, stripes [][]string) string {
	var data strings.Builder
	data.WriteString(x.text())
	for s, blocks := range stripes {
		data.WriteString(x.frame(v, s, blocks[v]))
	}
	data.WriteString(x.text())
	return data.String()
}

func nameOf(v int) string {
	return "v" + string([]byte{byte('0' + v/10), byte('0' + v%10)})
}
