package mem

import "amber/api"

// wordBytes: bytes of a word.
const wordBytes = api.PageBytes / api.PageWords

// Pack tells a page's bytes, lowest byte of each word first.
func Pack(p api.Page) []byte {
	b := make([]byte, api.PageBytes)
	for i := range b {
		b[i] = byte(p[i/wordBytes] >> shift(i))
	}
	return b
}

// Unpack makes a page of them.
func Unpack(b []byte) (api.Page, api.Errno) {
	if len(b) != api.PageBytes {
		return api.Page{}, api.ErrSize
	}
	var p api.Page
	for i, x := range b {
		p[i/wordBytes] |= uint32(x) << shift(i)
	}
	return p, api.OK
}

// shift: how far up in its word a page's byte lies; one rule for both ways, so that they undo each other.
func shift(i int) int { return i % wordBytes * 8 }
