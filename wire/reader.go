package wire

import (
	"bytes"

	"amber/api"
	"amber/crc"
)

// Reader: bytes are read from it. The first error stays.
type Reader struct {
	unread []byte
	err    api.Errno
}

// NewReader: over a copy of b.
func NewReader(b []byte) *Reader {
	return &Reader{unread: bytes.Clone(b)}
}

func (r *Reader) U8() int     { return int(r.number(1)) }
func (r *Reader) U16() int    { return int(r.number(2)) }
func (r *Reader) U32() uint32 { return uint32(r.number(4)) }
func (r *Reader) U64() int    { return int(r.number(8)) }

// word is U32 as an int: a shape's numbers are all ints.
func (r *Reader) word() int { return int(r.U32()) }

func (r *Reader) number(width int) uint64 {
	return lowestFirst(r.next(width))
}

func lowestFirst(b []byte) uint64 {
	var v uint64
	for i, x := range b {
		v |= uint64(x) << (8 * i)
	}
	return v
}

// Block reads n bytes.
func (r *Reader) Block(n int) []byte {
	return bytes.Clone(r.next(n))
}

// Sealed reads n bytes and the sum behind them.
func (r *Reader) Sealed(n int) []byte {
	if !r.has(n, sumBytes) {
		return nil
	}
	body, sum := r.unread[:n], r.unread[n:n+sumBytes]
	if uint32(lowestFirst(sum)) != crc.Sum(body) {
		r.err = api.ErrSeal
		return nil
	}
	r.next(n + sumBytes)
	return bytes.Clone(body)
}

// next moves the place past n bytes and answers them, as they lie in the reader's own memory.
func (r *Reader) next(n int) []byte {
	if !r.has(n, 0) {
		return nil
	}
	read := r.unread[:n]
	r.unread = r.unread[n:]
	return read
}

// has tells whether n bytes, and more behind them, may be read; if not, the reader has an error. The two aren't added: n may be any int.
func (r *Reader) has(n, more int) bool {
	switch {
	case r.err != api.OK:
	case n < 0:
		r.err = api.ErrArg
	case n > len(r.unread)-more:
		r.err = api.ErrShort
	}
	return r.err == api.OK
}

// Left tells how many bytes are left.
func (r *Reader) Left() int { return len(r.unread) }

// Err tells the first error.
func (r *Reader) Err() api.Errno { return r.err }

// End: nothing may be left.
func (r *Reader) End() api.Errno {
	if r.err == api.OK && len(r.unread) > 0 {
		return api.ErrTrail
	}
	return r.err
}
