package archive

import (
	"salvage/raw"
	"salvage/sum"
)

// sizeUnit is how many bytes a size is told in, so that one byte is enough.
const sizeUnit = 8

// manifest is what a volume tells of the archive that it is part of.
type manifest struct {
	k, m, size int
	length     int // how many bytes were archived
	key        string
}

// describe tells the manifest of the archive of these bytes.
func describe(bytes string, k, m, size int) manifest {
	x := manifest{k: k, m: m, size: size, length: len(bytes)}
	x.key = sum.Of("salvage" + x.numbers() + bytes)
	return x
}

// numbers tells k, m and the size, as the key and the manifest have them.
func (x manifest) numbers() string {
	return raw.Bytes(x.k, 1) + raw.Bytes(x.m, 1) + raw.Bytes(x.size/sizeUnit, 1)
}

// stripeSize tells how many bytes a stripe has.
func (x manifest) stripeSize() int { return x.k * x.size }

// stripeCount tells how many stripes there must be.
func (x manifest) stripeCount() int { return (x.length + x.stripeSize() - 1) / x.stripeSize() }

func (x manifest) text() string {
	return sealed("M" + x.numbers() + raw.Bytes(x.stripeCount(), 2) + raw.Bytes(x.length, 3) + x.key)
}

// frame tells the frame of the block that a stripe has on a volume.
func (x manifest) frame(volume, stripe int, block string) string {
	return sealed("B" + raw.Bytes(volume, 1) + raw.Bytes(stripe, 2) + x.key + block)
}

func sealed(s string) string { return s + sum.Of(s) }
