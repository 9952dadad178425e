// Package wire: numbers as bytes, lowest byte first, and sealed runs. See DOC.md, chapter 2.
package wire

import (
	"bytes"

	"amber/api"
	"amber/crc"
)

const (
	maxWire  = 1 << 20
	sumBytes = 4
)

// Writer: bytes are written to it, up to a limit. The first error stays.
type Writer struct {
	written []byte
	limit   int
	begins  []int // where the open runs begin, the outermost first
	err     api.Errno
}

// NewWriter: at most limit bytes.
func NewWriter(limit int) *Writer {
	return &Writer{limit: min(max(limit, 0), maxWire)}
}

func (w *Writer) U8(v int)     { w.fitting(v, 1) }
func (w *Writer) U16(v int)    { w.fitting(v, 2) }
func (w *Writer) U32(v uint32) { w.number(uint64(v), 4) }
func (w *Writer) U64(v int)    { w.number(uint64(v), 8) }

// word is U32 for a number that may not fit: a shape's numbers are all ints.
func (w *Writer) word(v int) { w.fitting(v, 4) }

// fitting refuses numbers below 0 too: as uint64 they have their highest bits set.
func (w *Writer) fitting(v, width int) {
	if uint64(v)>>(8*width) != 0 {
		w.fail(api.ErrArg)
		return
	}
	w.number(uint64(v), width)
}

func (w *Writer) number(v uint64, width int) {
	if !w.takes(width) {
		return
	}
	for i := range width {
		w.written = append(w.written, byte(v>>(8*i)))
	}
}

// Block puts the bytes of b.
func (w *Writer) Block(b []byte) {
	if w.takes(len(b)) {
		w.written = append(w.written, b...)
	}
}

// takes tells whether n more bytes may be put; where they pass the bound that is the writer's error.
func (w *Writer) takes(n int) bool {
	if n > w.limit-len(w.written) {
		w.fail(api.ErrNoSpace)
	}
	return w.err == api.OK
}

// fail keeps the first error.
func (w *Writer) fail(code api.Errno) {
	if w.err == api.OK {
		w.err = code
	}
}

// Open begins a sealed run.
func (w *Writer) Open() {
	if len(w.begins) == api.MaxNest {
		w.fail(api.ErrNest)
	}
	if w.err == api.OK {
		w.begins = append(w.begins, len(w.written))
	}
}

// Seal ends the innermost one with its sum.
func (w *Writer) Seal() {
	last := len(w.begins) - 1
	if last < 0 {
		w.fail(api.ErrNest)
		return
	}
	if w.takes(sumBytes) {
		w.U32(crc.Sum(w.written[w.begins[last]:]))
		w.begins = w.begins[:last]
	}
}

// Len tells how many bytes are written.
func (w *Writer) Len() int { return len(w.written) }

// Err tells the first error.
func (w *Writer) Err() api.Errno { return w.err }

// Out tells what is written.
func (w *Writer) Out() ([]byte, api.Errno) {
	if w.err != api.OK {
		return nil, w.err
	}
	if len(w.begins) > 0 {
		return nil, api.ErrNest
	}
	return bytes.Clone(w.written), api.OK
}
