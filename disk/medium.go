package disk

import "amber/api"

// Of: a disk with this medium.
func Of(medium []byte) (*Disk, api.Errno) {
	if len(medium) != api.MaxSectors*api.SectorBytes {
		return nil, api.ErrSize
	}
	d := New()
	for i := range d.medium {
		copy(d.medium[i][:], medium[i*api.SectorBytes:])
	}
	return d, api.OK
}

// Edit changes bytes of the medium.
func (d *Disk) Edit(sector, at int, data []byte) api.Errno {
	if outside(sector) {
		return api.ErrSector
	}
	if at < 0 || at > api.SectorBytes-len(data) { // not at + len(data): that sum may leave the range of int
		return api.ErrArg
	}
	copy(d.medium[sector][at:], data)
	return api.OK
}

// Raw tells a sector of the medium.
func (d *Disk) Raw(sector int) ([]byte, api.Errno) {
	if outside(sector) {
		return nil, api.ErrSector
	}
	return d.medium[sector].copied(), api.OK
}

// Medium tells all bytes of the medium.
func (d *Disk) Medium() []byte {
	out := make([]byte, api.MaxSectors*api.SectorBytes)
	for i := range d.medium {
		copy(out[i*api.SectorBytes:], d.medium[i][:])
	}
	return out
}
