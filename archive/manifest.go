package archive

import (
	"salvage/api"
	"salvage/code"
	"salvage/raw"
	"salvage/sum"
)

const (
	// sizeUnit is how many bytes a size is told in, so that one byte is enough.
	sizeUnit = 8

	sumSize      = 8
	manifestSize = 25
	// frameExtra is how many bytes of a frame are not the block's.
	frameExtra = 20
)

// manifest is what a volume tells of the archive that it is part of.
type manifest struct {
	k, m, size int
	length     int // how many bytes were archived
	key        string
}

// describe tells the manifest of the archive of these bytes.
func describe(bytes string, k, m, size int) manifest {
	x := manifest{k: k, m: m, size: size, length: len(bytes)}
	x.key = sum.Of("salvage" + x.numbers() + bytes)
	return x
}

// numbers tells k, m and the size, as the key and the manifest have them.
func (x manifest) numbers() string {
	return raw.Bytes(x.k, 1) + raw.Bytes(x.m, 1) + raw.Bytes(x.size/sizeUnit, 1)
}

// stripeSize tells how many bytes a stripe has.
func (x manifest) stripeSize() int { return x.k * x.size }

// stripeCount tells how many stripes there must be.
func (x manifest) stripeCount() int { return (x.length + x.stripeSize() - 1) / x.stripeSize() }

func (x manifest) text() string {
	return sealed("M" + x.numbers() + raw.Bytes(x.stripeCount(), 2) + raw.Bytes(x.length, 3) + x.key)
}

// readManifest reads a good manifest.
func readManifest(r *raw.Reader) manifest {
	r = unsealed(r, manifestSize)
	r.Expect("M")
	begin := r.Place()
	var x manifest
	x.k = r.Number(1, 1, api.MaxVolumes)
	x.m = r.Number(1, 0, api.MaxVolumes)
	x.size = sizeUnit * r.Number(1, 1, api.MaxBlock/sizeUnit)
	if !code.Fits(x.k, x.m, x.size) {
		raw.GiveUp(begin)
	}
	begin = r.Place()
	stripes := r.Number(2, 0, api.MaxStream)
	x.length = r.Number(3, 0, api.MaxStream)
	if stripes != x.stripeCount() {
		raw.GiveUp(begin)
	}
	x.key = r.Text(sumSize)
	return x
}

// frame tells the frame of the block that a stripe has on a volume.
func (x manifest) frame(volume, stripe int, block string) string {
	return sealed(x.frameHead(volume, stripe) + block)
}

// frameHead tells what stands ahead of the block in its frame.
func (x manifest) frameHead(volume, stripe int) string {
	return "B" + raw.Bytes(volume, 1) + raw.Bytes(stripe, 2) + x.key
}

func (x manifest) frameSize() int { return x.size + frameExtra }

// frameAt tells where in a volume the frame of a stripe begins.
func (x manifest) frameAt(stripe int) int { return manifestSize + stripe*x.frameSize() }

// readFrame reads the frame that a stripe has on a volume, and tells its block.
func (x manifest) readFrame(r *raw.Reader, volume, stripe int) string {
	r = unsealed(r, x.frameSize())
	r.Expect(x.frameHead(volume, stripe))
	return r.Text(x.size)
}

func sealed(s string) string { return s + sum.Of(s) }

// unsealed reads so many bytes, of which the last ones must be the sum of the others, and tells a reader of these others.
func unsealed(r *raw.Reader, count int) *raw.Reader {
	s := r.Text(count - sumSize)
	r.Expect(sum.Of(s))
	return raw.NewReader(s)
}
