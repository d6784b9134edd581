package salvage_test

import (
	"fmt"
	"math/rand"
	"strings"

	"salvage/api"
	"salvage/salvage"
)

// What stands here is worked out straight from the document's words, by other means than the program's, to hold its answers against.

const (
	greatest = int(^uint(0) >> 1)
	least    = -greatest - 1
)

// outside are numbers far out and at the edges of what an int holds, beside those just outside of a byte.
var outside = []int{-1, 256, 257, 511, -255, -256, 1 << 16, 1 << 32, 1<<32 + 1, 1 << 62, -1 << 62, greatest, least}

// slowTimes multiplies polynomials first and takes the remainder last.
func slowTimes(a, b int) int {
	product := 0
	for i := range 8 {
		if b>>i&1 == 1 {
			product ^= a << i
		}
	}
	for i := 14; i >= 8; i-- {
		if product>>i&1 == 1 {
			product ^= (1<<8 | 1<<4 | 1<<3 | 1<<2 | 1) << (i - 8)
		}
	}
	return product
}

func slowInverse(a int) int {
	for b := range 256 {
		if slowTimes(a, b) == 1 {
			return b
		}
	}
	return 0
}

// numberAt tells the number that the eight bits at a place within the packets make.
func numberAt(block string, place int) int {
	n, width := 0, len(block)/8
	for packet := range 8 {
		bit := int(block[packet*width+place/8]) >> (place % 8) & 1
		n |= bit << packet
	}
	return n
}

func setNumber(block []byte, place, n int) {
	width := len(block) / 8
	for packet := range 8 {
		block[packet*width+place/8] |= byte(n >> packet & 1 << (place % 8))
	}
}

// slowEncode goes place by place, number by number.
func slowEncode(m int, data []string) []string {
	var further []string
	k, size := len(data), len(data[0])
	for i := range m {
		block := make([]byte, size)
		var factors []int
		for j := range k {
			factors = append(factors, slowInverse((k+i)^j))
		}
		for place := range size {
			n := 0
			for j, d := range data {
				n ^= slowTimes(numberAt(d, place), factors[j])
			}
			setNumber(block, place, n)
		}
		further = append(further, string(block))
	}
	return further
}

func randomBlocks(r *rand.Rand, n, size int) []string {
	var list []string
	for range n {
		b := make([]byte, size)
		r.Read(b)
		list = append(list, string(b))
	}
	return list
}

// noughts tells n blocks of noughts.
func noughts(n, size int) []string {
	var list []string
	for range n {
		list = append(list, strings.Repeat("\x00", size))
	}
	return list
}

func at(number int, data string) api.Block { return api.Block{Number: number, Data: data} }

// chosen tells the blocks of these numbers, in this order.
func chosen(all []string, numbers ...int) []api.Block {
	var have []api.Block
	for _, n := range numbers {
		have = append(have, at(n, all[n]))
	}
	return have
}

// slowStream lays out files whether they are a tree or not; how many there are, and how long their names are, must fit a byte.
func slowStream(files []api.File) string {
	stream := []byte{byte(len(files))}
	for _, f := range files {
		stream = append(stream, byte(len(f.Name)))
		stream = append(stream, f.Name...)
		stream = append(stream, byte(len(f.Data)%256), byte(len(f.Data)/256))
		stream = append(stream, f.Data...)
	}
	return string(stream)
}

// slowIsTree goes by the words, each name against each other one.
func slowIsTree(files []api.File) bool {
	for i, f := range files {
		if !slowIsName(f.Name) || len(f.Data) > 200 {
			return false
		}
		for j, other := range files {
			if i < j && f.Name >= other.Name || i != j && strings.HasPrefix(other.Name, f.Name+"/") {
				return false
			}
		}
	}
	return len(files) <= 8
}

func slowIsName(name string) bool {
	return len(name) >= 1 && len(name) <= 12 && strings.Trim(name, "abcdefghijklmnopqrstuvwxyz/") == "" &&
		name[0] != '/' && name[len(name)-1] != '/' && !strings.Contains(name, "//")
}

// slowTree takes one byte after the other, and asks of each thing when its last byte has come. With no tree it tells the place.
func slowTree(stream string) (tree []api.File, place int, ok bool) {
	const (
		count = iota
		nameLength
		name
		dataLength
		data
		behind
	)
	files, kind, begin, need := 0, count, 0, 1
	for i := range len(stream) {
		if kind == behind {
			return nil, i, false
		}
		if i-begin+1 < need {
			continue
		}
		thing := stream[begin : i+1]
		number := int(thing[0])
		right := true
		switch kind {
		case count:
			files, right = number, number <= 8
			kind, need = nameLength, 1
		case nameLength:
			right = number >= 1 && number <= 12
			kind, need = name, number
		case name:
			tree = append(tree, api.File{Name: thing})
			right = slowIsTree(tree)
			kind, need = dataLength, 2
		case dataLength:
			number += 256 * int(thing[1])
			right = number <= 200
			kind, need = data, number
		case data:
			tree[len(tree)-1].Data = thing
			kind, need = nameLength, 1
		}
		if !right {
			return nil, begin, false
		}
		if kind == data && need == 0 {
			kind, need = nameLength, 1
		}
		if kind == nameLength && len(tree) == files {
			kind = behind
		}
		begin = i + 1
	}
	if kind != behind {
		return nil, len(stream), false
	}
	return tree, 0, true
}

// slowLow tells a number's bytes, the lowest first.
func slowLow(n, count int) string {
	var bytes []byte
	for range count {
		bytes = append(bytes, byte(n%256))
		n /= 256
	}
	return string(bytes)
}

func slowSealed(s string) string { return s + slowSum(s) }

func slowManifest(k, m, eighths, stripes, length int, key string) string {
	return slowSealed("M" + slowLow(k, 1) + slowLow(m, 1) + slowLow(eighths, 1) + slowLow(stripes, 2) + slowLow(length, 3) + key)
}

func slowFrame(volume, stripe int, key, block string) string {
	return slowSealed("B" + slowLow(volume, 1) + slowLow(stripe, 2) + key + block)
}

func slowKey(bytes string, k, m, size int) string {
	return slowSum("salvage" + slowLow(k, 1) + slowLow(m, 1) + slowLow(size/8, 1) + bytes)
}

func slowName(v int) string { return fmt.Sprintf("v%02d", v) }

// slowVolumes goes stripe by stripe, and adds a frame to each volume.
func slowVolumes(bytes string, k, m, size int) []api.File {
	key := slowKey(bytes, k, m, size)
	frames := make([]string, k+m)
	stripes := 0
	for rest := bytes; rest != ""; stripes++ {
		var blocks []string
		for range k {
			block := rest[:min(size, len(rest))]
			rest = rest[len(block):]
			blocks = append(blocks, block+strings.Repeat("\x00", size-len(block)))
		}
		for v, block := range append(blocks, slowEncode(m, blocks)...) {
			frames[v] += slowFrame(v, stripes, key, block)
		}
	}
	manifest := slowManifest(k, m, size/8, stripes, len(bytes), key)
	var volumes []api.File
	for v, f := range frames {
		volumes = append(volumes, api.File{Name: slowName(v), Data: manifest + f + manifest})
	}
	return volumes
}

func slowNumber(bytes string) int {
	n := 0
	for i := len(bytes) - 1; i >= 0; i-- {
		n = 256*n + int(bytes[i])
	}
	return n
}

// slowFound is what is found in a list of files, and what comes of it.
type slowFound struct {
	manifest   string // empty if there is no good one
	k, m, size int
	marks      []string
	bytes      string
	e          api.Errno // what Repair answers
	stripe     int
}

func slowFind(files []api.File) slowFound {
	x := slowFound{manifest: slowManifestThatCounts(files), e: api.ErrManifest}
	if x.manifest == "" {
		return x
	}
	x.k, x.m, x.size, x.e = int(x.manifest[1]), int(x.manifest[2]), 8*int(x.manifest[3]), api.OK
	filled := ""
	for s := range slowNumber(x.manifest[4:6]) {
		marks := ""
		var good []api.Block
		for v := range x.k + x.m {
			block, ok := x.slowGood(files, v, s)
			if ok {
				good, marks = append(good, at(v, block)), marks+"1"
			} else {
				marks += "0"
			}
		}
		x.marks = append(x.marks, marks)
		if len(good) < x.k && x.e == api.OK {
			x.e, x.stripe = api.ErrFew, s
		}
		if x.e == api.OK {
			all, _ := salvage.Rebuild(x.k, x.m, good)
			filled += strings.Join(all[:x.k], "")
		}
	}
	if x.e != api.OK {
		return x
	}
	x.bytes = filled[:slowNumber(x.manifest[6:9])]
	if slowKey(x.bytes, x.k, x.m, x.size) != x.manifest[9:17] {
		x.bytes, x.e = "", api.ErrStream
	}
	return x
}

func slowFile(files []api.File, name string) string {
	for _, f := range files {
		if f.Name == name {
			return f.Data
		}
	}
	return ""
}

func slowManifestThatCounts(files []api.File) string {
	for v := range 12 {
		data := slowFile(files, slowName(v))
		if len(data) < 25 {
			continue
		}
		for _, s := range []string{data[:25], data[len(data)-25:]} {
			if slowIsGoodManifest(s) {
				return s
			}
		}
	}
	return ""
}

func slowIsGoodManifest(s string) bool {
	k, m, size := int(s[1]), int(s[2]), 8*int(s[3])
	if s[0] != 'M' || s != slowSealed(s[:17]) || k < 1 || k+m > 12 || size < 8 || size > 64 {
		return false
	}
	stripes, length := 0, slowNumber(s[6:9])
	for stripes*k*size < length {
		stripes++
	}
	return length <= 2000 && stripes == slowNumber(s[4:6])
}

func (x slowFound) slowGood(files []api.File, v, s int) (string, bool) {
	data := slowFile(files, slowName(v))
	begin := 25 + s*(x.size+20)
	if len(data) < begin+x.size+20 {
		return "", false
	}
	block := data[begin+12 : begin+12+x.size]
	return block, strings.HasPrefix(data[begin:], slowFrame(v, s, x.manifest[9:17], block))
}

// slowRepaired goes by the names, and asks of each whether it is one of the first so many volumes.
func (x slowFound) slowRepaired(files []api.File) []api.File {
	list := slowVolumes(x.bytes, x.k, x.m, x.size)
	for _, f := range files {
		other := true
		for v := range x.k + x.m {
			other = other && f.Name != slowName(v)
		}
		if other {
			list = append(list, f)
		}
	}
	return list
}
