package code

import (
	"sync"

	"salvage/api"
)

// pattern is of which code and which of its blocks are there: all that a plan hangs on.
type pattern struct {
	k, m  int
	there [api.MaxVolumes]bool
}

// step is one packet that is to be added to another one. Packets are counted through all blocks of a code: packet p of block b is packets times b, plus p.
type step struct {
	from, to int
}

type plan []step

// Plans keeps each plan that was made, so that one is made only once for each pattern. Its zero value is ready; goroutines may share it.
type Plans struct {
	mutex sync.Mutex
	made  map[pattern]plan
}

// of tells the plan of a pattern with k blocks.
func (x *Plans) of(key pattern) plan {
	x.mutex.Lock()
	defer x.mutex.Unlock()
	if made, ok := x.made[key]; ok {
		return made
	}
	if x.made == nil {
		x.made = make(map[pattern]plan)
	}
	made := makePlan(key)
	x.made[key] = made
	return made
}

func makePlan(key pattern) plan {
	there, missing := key.numbers()
	a := product(rowsOf(missing, key.k), inverse(rowsOf(there, key.k)))
	var steps plan
	for i, row := range bitsOf(a) {
		for j, bit := range row {
			if bit {
				steps = append(steps, step{from: packetOf(there, j), to: packetOf(missing, i)})
			}
		}
	}
	return steps
}

// packetOf tells which packet the i-th one of the blocks of these numbers is.
func packetOf(numbers []int, i int) int {
	return packets*numbers[i/packets] + i%packets
}

func (x pattern) numbers() (there, missing []int) {
	for number := range x.k + x.m {
		if x.there[number] {
			there = append(there, number)
		} else {
			missing = append(missing, number)
		}
	}
	return there, missing
}

// run adds packets of width bytes as the plan says; the blocks that are missing must be noughts.
func (x plan) run(blocks []byte, width int) {
	for _, s := range x {
		from, to := blocks[s.from*width:], blocks[s.to*width:]
		for i := range width {
			to[i] ^= from[i]
		}
	}
}
