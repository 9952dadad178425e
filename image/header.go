package image

import (
	"bytes"

	"amber/api"
	"amber/crc"
	"amber/wire"
)

const (
	magic       = "AMBR"
	version     = 1
	sections    = 6
	sealedBytes = 72 // of the header, ahead of its own sum
	headerBytes = sealedBytes + 4
)

// recordBytes: of a record of each section, from section 1 on.
var recordBytes = [sections]int{50, 9, 4, 17, api.PageBytes, 9}

// part: what the header tells of a section.
type part struct {
	length int
	sum    uint32
}

type header struct {
	incr      bool
	gen, prev int
	prevIdent uint32
	parts     [sections]part
	total     uint32
}

// writeHeader: the header is a sealed run of wire's.
func writeHeader(w *wire.Writer, im api.Image, bodies [sections][]byte) {
	w.Open()
	w.Block([]byte(magic))
	w.U16(version)
	w.U8(bit(im.Incr))
	w.U8(sections)
	w.U32(uint32(im.Gen))
	w.U32(uint32(im.Prev))
	w.U32(im.PrevIdent)
	total := crc.New()
	for _, body := range bodies {
		w.U32(uint32(len(body)))
		w.U32(crc.Sum(body))
		total.Write(body)
	}
	w.U32(total.Sum())
	w.Seal()
}

func bit(on bool) int {
	if on {
		return 1
	}
	return 0
}

// openHeader answers the bytes that the header's own sum guards. That they are no image's is told ahead of a wrong sum.
func openHeader(data []byte) ([]byte, error) {
	r := wire.NewReader(data[:min(len(data), headerBytes)])
	sealed := r.Sealed(sealedBytes)
	switch code := r.Err(); {
	case code == api.ErrShort:
		return nil, code
	case !bytes.HasPrefix(data, []byte(magic)):
		return nil, ErrMagic
	case code != api.OK:
		return nil, code
	}
	return sealed, nil
}

func readHeader(data []byte) (header, error) {
	sealed, err := openHeader(data)
	if err != nil {
		return header{}, err
	}
	r := wire.NewReader(sealed[len(magic):])
	if r.U16() != version {
		return header{}, ErrVersion
	}
	incr := r.U8()
	if incr > 1 || r.U8() != sections {
		return header{}, ErrForm
	}
	h := header{incr: incr == 1, gen: int(r.U32()), prev: int(r.U32()), prevIdent: r.U32()}
	for i := range h.parts {
		h.parts[i] = part{length: int(r.U32()), sum: r.U32()}
	}
	h.total = r.U32()
	return h, nil
}

// lengthsFit: n bytes lie behind the header.
func (h header) lengthsFit(n int) error {
	for _, p := range h.parts {
		n -= p.length
	}
	if n != 0 {
		return ErrLength
	}
	for i, p := range h.parts {
		if p.length%recordBytes[i] != 0 {
			return &Fault{i + 1, ErrLength}
		}
	}
	return nil
}

// sumsFit: the lengths fit the body already.
func (h header) sumsFit(body []byte) error {
	at := 0
	for i, p := range h.parts {
		if crc.Sum(body[at:at+p.length]) != p.sum {
			return &Fault{i + 1, ErrSum}
		}
		at += p.length
	}
	if crc.Sum(body) != h.total {
		return ErrSum
	}
	return nil
}
