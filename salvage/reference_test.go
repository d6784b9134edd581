package salvage_test

import (
	"math/rand"
	"strings"

	"salvage/api"
)

// What stands here is worked out straight from the document's words, by other means than the program's, to hold its answers against.

const (
	greatest = int(^uint(0) >> 1)
	least    = -greatest - 1
)

// outside are numbers far out and at the edges of what an int holds, beside those just outside of a byte.
var outside = []int{-1, 256, 257, 511, -255, -256, 1 << 16, 1 << 32, 1<<32 + 1, 1 << 62, -1 << 62, greatest, least}

// slowTimes multiplies polynomials first and takes the remainder last.
func slowTimes(a, b int) int {
	product := 0
	for i := range 8 {
		if b>>i&1 == 1 {
			product ^= a << i
		}
	}
	for i := 14; i >= 8; i-- {
		if product>>i&1 == 1 {
			product ^= (1<<8 | 1<<4 | 1<<3 | 1<<2 | 1) << (i - 8)
		}
	}
	return product
}

func slowInverse(a int) int {
	for b := range 256 {
		if slowTimes(a, b) == 1 {
			return b
		}
	}
	return 0
}

// numberAt tells the number that the eight bits at a place within the packets make.
func numberAt(block string, place int) int {
	n, width := 0, len(block)/8
	for packet := range 8 {
		bit := int(block[packet*width+place/8]) >> (place % 8) & 1
		n |= bit << packet
	}
	return n
}

func setNumber(block []byte, place, n int) {
	width := len(block) / 8
	for packet := range 8 {
		block[packet*width+place/8] |= byte(n >> packet & 1 << (place % 8))
	}
}

// slowEncode goes place by place, number by number.
func slowEncode(m int, data []string) []string {
	var further []string
	k, size := len(data), len(data[0])
	for i := range m {
		block := make([]byte, size)
		var factors []int
		for j := range k {
			factors = append(factors, slowInverse((k+i)^j))
		}
		for place := range size {
			n := 0
			for j, d := range data {
				n ^= slowTimes(numberAt(d, place), factors[j])
			}
			setNumber(block, place, n)
		}
		further = append(further, string(block))
	}
	return further
}

func randomBlocks(r *rand.Rand, n, size int) []string {
	var list []string
	for range n {
		b := make([]byte, size)
		r.Read(b)
		list = append(list, string(b))
	}
	return list
}

// noughts tells n blocks of noughts.
func noughts(n, size int) []string {
	var list []string
	for range n {
		list = append(list, strings.Repeat("\x00", size))
	}
	return list
}

func at(number int, data string) api.Block { return api.Block{Number: number, Data: data} }

// chosen tells the blocks of these numbers, in this order.
func chosen(all []string, numbers ...int) []api.Block {
	var have []api.Block
	for _, n := range numbers {
		have = append(have, at(n, all[n]))
	}
	return have
}
