package store

import (
	"bytes"

	"amber/api"
	"amber/wire"
)

const (
	magic       = "AMBS"
	copies      = 2 // superblocks of a home, the sectors 0 and 1
	sealedBytes = api.SectorBytes - 4
	extentBytes = api.ExtSectors * api.SectorBytes
	noExtent    = 0xff
)

// superblock: which images the commit of a generation left, the first first.
type superblock struct {
	gen    int
	images []laid
}

// laid: an image's length, and the extents on which it lies.
type laid struct {
	length  int
	extents []int
}

// extentsOf: how many extents so many bytes need.
func extentsOf(length int) int { return (length + extentBytes - 1) / extentBytes }

func (b superblock) allExtents() []int {
	var told []int
	for _, im := range b.images {
		told = append(told, im.extents...)
	}
	return told
}

// encoded: the one form of a superblock that is valid somewhere.
func (b superblock) encoded() []byte {
	w := wire.NewWriter(api.SectorBytes)
	w.Open()
	w.Block([]byte(magic))
	w.U32(uint32(b.gen))
	w.U8(len(b.images))
	for _, im := range b.images {
		w.U32(uint32(im.length))
		for _, n := range im.extents {
			w.U8(n)
		}
		w.Block(bytes.Repeat([]byte{noExtent}, api.ImageExts-len(im.extents)))
	}
	w.Block(make([]byte, sealedBytes-w.Len()))
	w.Seal()
	data, _ := w.Out()
	return data
}

// readSuperblock reads the numbers where they lie, and looks neither at the sum nor at the bytes between them: a valid sector is one that these numbers make again.
func readSuperblock(data []byte) superblock {
	r := wire.NewReader(data)
	r.Block(len(magic))
	b := superblock{gen: int(r.U32())}
	for range min(r.U8(), maxImages) {
		b.images = append(b.images, readLaid(r))
	}
	return b
}

func readLaid(r *wire.Reader) laid {
	im := laid{length: int(r.U32())}
	for i, n := range r.Block(api.ImageExts) {
		if i < extentsOf(im.length) {
			im.extents = append(im.extents, int(n))
		}
	}
	return im
}

// validIn tells whether a sector of a home holds just this superblock, and it may stand there.
func (b superblock) validIn(home, sector int, data []byte) bool {
	return b.gen >= 1 && b.gen%copies == sector && len(b.images) >= 1 && b.lengthsFit() && b.extentsFit(home) && bytes.Equal(b.encoded(), data)
}

func (b superblock) lengthsFit() bool {
	for _, im := range b.images {
		if im.length < 1 || im.length > api.MaxImage {
			return false
		}
	}
	return true
}

// extentsFit: each is one of the disk's, none is home, and no two are alike.
func (b superblock) extentsFit(home int) bool {
	var taken [api.MaxExtents]bool
	taken[home] = true
	for _, n := range b.allExtents() {
		if n >= api.MaxExtents || taken[n] {
			return false
		}
		taken[n] = true
	}
	return true
}
