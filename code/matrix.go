package code

import "salvage/field"

// matrix is one of numbers of eight bits, row by row.
type matrix [][]byte

// bitMatrix is one of bits, row by row.
type bitMatrix [][]bool

func newMatrix(rows, columns int) matrix {
	a := make(matrix, rows)
	for i := range a {
		a[i] = make([]byte, columns)
	}
	return a
}

// rowsOf tells what the k data blocks are to be multiplied by to get the blocks of these numbers.
func rowsOf(numbers []int, k int) matrix {
	rows := newMatrix(len(numbers), k)
	for i, number := range numbers {
		if number < k {
			rows[i][number] = 1
			continue
		}
		for j := range k {
			rows[i][j] = field.Inverse(byte(number ^ j))
		}
	}
	return rows
}

func product(a, b matrix) matrix {
	c := newMatrix(len(a), len(b[0]))
	for i, row := range a {
		for j, factor := range row {
			addTimes(c[i], b[j], factor)
		}
	}
	return c
}

// inverse tells the inverse of a square matrix of the rows of k blocks, and uses that matrix up.
func inverse(a matrix) matrix {
	b := newMatrix(len(a), len(a))
	for i := range b {
		b[i][i] = 1
	}
	for i := range a {
		p := pivot(a, i)
		a[i], a[p] = a[p], a[i]
		b[i], b[p] = b[p], b[i]
		factor := field.Inverse(a[i][i])
		scale(a[i], factor)
		scale(b[i], factor)
		clearColumn(a, b, i)
	}
	return b
}

// pivot tells the first row, from row i on, with a number other than 0 in column i.
func pivot(a matrix, i int) int {
	p := i
	// It ends within the matrix, as any k rows of a code have an inverse.
	for a[p][i] == 0 {
		p++
	}
	return p
}

// clearColumn makes column i of a 0 but for row i, which has a 1 there, and does the same to b.
func clearColumn(a, b matrix, i int) {
	for r := range a {
		if factor := a[r][i]; r != i {
			addTimes(a[r], a[i], factor)
			addTimes(b[r], b[i], factor)
		}
	}
}

func scale(row []byte, factor byte) {
	for i := range row {
		row[i] = field.Times(row[i], factor)
	}
}

func addTimes(to, from []byte, factor byte) {
	for i, n := range from {
		to[i] ^= field.Times(n, factor)
	}
}

// bitsOf tells the matrix of bits that does to the bits of numbers what a does to the numbers.
func bitsOf(a matrix) bitMatrix {
	b := make(bitMatrix, packets*len(a))
	for i := range b {
		row := a[i/packets]
		b[i] = make([]bool, packets*len(row))
		for j := range b[i] {
			image := field.Times(row[j/packets], 1<<(j%packets))
			b[i][j] = image>>(i%packets)&1 != 0
		}
	}
	return b
}
