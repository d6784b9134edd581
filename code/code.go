// Package code: the blocks of a code, made of any k of them.
package code

import "salvage/api"

// packets is how many packets a block is cut into: one for each bit of a number.
const packets = 8

// Fits tells whether there is a code of k data blocks and m further ones of this size.
func Fits(k, m, size int) bool {
	// Held against the difference, as the sum of great numbers would wrap round.
	if k < 1 || m < 0 || m > api.MaxVolumes-k {
		return false
	}
	return size >= packets && size <= api.MaxBlock && size%packets == 0
}

// Sound tells whether these are blocks of one code of k and m, each at most once.
func Sound(k, m int, have []api.Block) bool {
	if len(have) == 0 || !Fits(k, m, len(have[0].Data)) {
		return false
	}
	size := len(have[0].Data)
	var seen [api.MaxVolumes]bool
	for _, b := range have {
		if b.Number < 0 || b.Number >= k+m || seen[b.Number] || len(b.Data) != size {
			return false
		}
		seen[b.Number] = true
	}
	return true
}

// Complete tells all k + m blocks of the code whose blocks the first k of have are. These must be sound, and k or more.
func (x *Plans) Complete(k, m int, have []api.Block) []string {
	size := len(have[0].Data)
	key := pattern{k: k, m: m}
	blocks := make([]byte, (k+m)*size)
	for _, b := range have[:k] {
		key.there[b.Number] = true
		copy(blocks[b.Number*size:], b.Data)
	}
	x.of(key).run(blocks, size/packets)
	all := make([]string, k+m)
	for i := range all {
		all[i] = string(blocks[i*size : (i+1)*size])
	}
	return all
}
