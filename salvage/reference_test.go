package salvage_test

import (
	"fmt"
	"math/rand"
	"strings"

	"salvage/api"
)

// What stands here is worked out straight from the document's words, by other means than the program's, to hold its answers against.

const (
	greatest = int(^uint(0) >> 1)
	least    = -greatest - 1
)

// outside are numbers far out and at the edges of what an int holds, beside those just outside of a byte.
var outside = []int{-1, 256, 257, 511, -255, -256, 1 << 16, 1 << 32, 1<<32 + 1, 1 << 62, -1 << 62, greatest, least}

// slowTimes multiplies polynomials first and takes the remainder last.
func slowTimes(a, b int) int {
	product := 0
	for i := range 8 {
		if b>>i&1 == 1 {
			product ^= a << i
		}
	}
	for i := 14; i >= 8; i-- {
		if product>>i&1 == 1 {
			product ^= (1<<8 | 1<<4 | 1<<3 | 1<<2 | 1) << (i - 8)
		}
	}
	return product
}

func slowInverse(a int) int {
	for b := range 256 {
		if slowTimes(a, b) == 1 {
			return b
		}
	}
	return 0
}

// numberAt tells the number that the eight bits at a place within the packets make.
func numberAt(block string, place int) int {
	n, width := 0, len(block)/8
	for packet := range 8 {
		bit := int(block[packet*width+place/8]) >> (place % 8) & 1
		n |= bit << packet
	}
	return n
}

func setNumber(block []byte, place, n int) {
	width := len(block) / 8
	for packet := range 8 {
		block[packet*width+place/8] |= byte(n >> packet & 1 << (place % 8))
	}
}

// slowEncode goes place by place, number by number.
func slowEncode(m int, data []string) []string {
	var further []string
	k, size := len(data), len(data[0])
	for i := range m {
		block := make([]byte, size)
		var factors []int
		for j := range k {
			factors = append(factors, slowInverse((k+i)^j))
		}
		for place := range size {
			n := 0
			for j, d := range data {
				n ^= slowTimes(numberAt(d, place), factors[j])
			}
			setNumber(block, place, n)
		}
		further = append(further, string(block))
	}
	return further
}

func randomBlocks(r *rand.Rand, n, size int) []string {
	var list []string
	for range n {
		b := make([]byte, size)
		r.Read(b)
		list = append(list, string(b))
	}
	return list
}

// noughts tells n blocks of noughts.
func noughts(n, size int) []string {
	var list []string
	for range n {
		list = append(list, strings.Repeat("\x00", size))
	}
	return list
}

func at(number int, data string) api.Block { return api.Block{Number: number, Data: data} }

// chosen tells the blocks of these numbers, in this order.
func chosen(all []string, numbers ...int) []api.Block {
	var have []api.Block
	for _, n := range numbers {
		have = append(have, at(n, all[n]))
	}
	return have
}

// slowStream lays out files whether they are a tree or not; how many there are, and how long their names are, must fit a byte.
func slowStream(files []api.File) string {
	stream := []byte{byte(len(files))}
	for _, f := range files {
		stream = append(stream, byte(len(f.Name)))
		stream = append(stream, f.Name...)
		stream = append(stream, byte(len(f.Data)%256), byte(len(f.Data)/256))
		stream = append(stream, f.Data...)
	}
	return string(stream)
}

// slowIsTree goes by the words, each name against each other one.
func slowIsTree(files []api.File) bool {
	for i, f := range files {
		if !slowIsName(f.Name) || len(f.Data) > 200 {
			return false
		}
		for j, other := range files {
			if i < j && f.Name >= other.Name || i != j && strings.HasPrefix(other.Name, f.Name+"/") {
				return false
			}
		}
	}
	return len(files) <= 8
}

func slowIsName(name string) bool {
	return len(name) >= 1 && len(name) <= 12 && strings.Trim(name, "abcdefghijklmnopqrstuvwxyz/") == "" &&
		name[0] != '/' && name[len(name)-1] != '/' && !strings.Contains(name, "//")
}

// slowTree takes one byte after the other, and asks of each thing when its last byte has come. With no tree it tells the place.
func slowTree(stream string) (tree []api.File, place int, ok bool) {
	const (
		count = iota
		nameLength
		name
		dataLength
		data
		behind
	)
	files, kind, begin, need := 0, count, 0, 1
	for i := range len(stream) {
		if kind == behind {
			return nil, i, false
		}
		if i-begin+1 < need {
			continue
		}
		thing := stream[begin : i+1]
		number := int(thing[0])
		right := true
		switch kind {
		case count:
			files, right = number, number <= 8
			kind, need = nameLength, 1
		case nameLength:
			right = number >= 1 && number <= 12
			kind, need = name, number
		case name:
			tree = append(tree, api.File{Name: thing})
			right = slowIsTree(tree)
			kind, need = dataLength, 2
		case dataLength:
			number += 256 * int(thing[1])
			right = number <= 200
			kind, need = data, number
		case data:
			tree[len(tree)-1].Data = thing
			kind, need = nameLength, 1
		}
		if !right {
			return nil, begin, false
		}
		if kind == data && need == 0 {
			kind, need = nameLength, 1
		}
		if kind == nameLength && len(tree) == files {
			kind = behind
		}
		begin = i + 1
	}
	if kind != behind {
		return nil, len(stream), false
	}
	return tree, 0, true
}

// slowLow tells a number's bytes, the lowest first.
func slowLow(n, count int) string {
	var bytes []byte
	for range count {
		bytes = append(bytes, byte(n%256))
		n /= 256
	}
	return string(bytes)
}

func slowSealed(s string) string { return s + slowSum(s) }

// slowVolumes goes stripe by stripe, and adds a frame to each volume.
func slowVolumes(bytes string, k, m, size int) []api.File {
	numbers := slowLow(k, 1) + slowLow(m, 1) + slowLow(size/8, 1)
	key := slowSum("salvage" + numbers + bytes)
	frames := make([]string, k+m)
	stripes := 0
	for rest := bytes; rest != ""; stripes++ {
		var blocks []string
		for range k {
			block := rest[:min(size, len(rest))]
			rest = rest[len(block):]
			blocks = append(blocks, block+strings.Repeat("\x00", size-len(block)))
		}
		for v, block := range append(blocks, slowEncode(m, blocks)...) {
			frames[v] += slowSealed("B" + slowLow(v, 1) + slowLow(stripes, 2) + key + block)
		}
	}
	manifest := slowSealed("M" + numbers + slowLow(stripes, 2) + slowLow(len(bytes), 3) + key)
	var volumes []api.File
	for v, f := range frames {
		volumes = append(volumes, api.File{Name: fmt.Sprintf("v%02d", v), Data: manifest + f + manifest})
	}
	return volumes
}
