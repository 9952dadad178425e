package crc

// Digest: a sum that grows with what is written.
type Digest struct {
	sum    uint32
	length int
}

// New gives an empty digest.
func New() *Digest { return &Digest{} }

// Write adds bytes.
func (d *Digest) Write(b []byte) {
	d.sum = Update(d.sum, b)
	d.length += len(b)
}

// Sum tells the sum of all that was written.
func (d *Digest) Sum() uint32 { return d.sum }

// Len tells how many bytes were written.
func (d *Digest) Len() int { return d.length }

// Reset makes it empty again.
func (d *Digest) Reset() { *d = Digest{} }
