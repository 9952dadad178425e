package squeeze_test

import (
	"bytes"
	"slices"

	"amber/api"
)

// piece: a token as the document tells it: a plain run, or a copy of so many bytes from so far before.
type piece struct {
	run              []byte
	length, distance int
}

// makes: how many plain bytes.
func (p piece) makes() int { return len(p.run) + p.length }

// lay writes a packed text down: the length, then each token.
func lay(n int, pieces []piece) []byte {
	out := []byte{byte(n % 256), byte(n / 256 % 256), byte(n / 65536 % 256), byte(n / 16777216)}
	for _, p := range pieces {
		if p.length > 0 {
			out = append(out, byte(128+p.length-4), byte((p.distance-1)%256), byte((p.distance-1)/256))
		} else {
			out = append(append(out, byte(len(p.run)-1)), p.run...)
		}
	}
	return out
}

// ruleMatch: in how many bytes b from i on and b from i - d on agree.
func ruleMatch(b []byte, i, d int) int {
	j := 0
	for j < 131 && i+j < len(b) && b[i+j] == b[i+j-d] {
		j++
	}
	return j
}

// ruleLongest tries all distances.
func ruleLongest(b []byte, i int) (length, distance int) {
	for d := 1; d <= i && d <= 65536; d++ {
		if n := ruleMatch(b, i, d); n > length {
			length, distance = n, d
		}
	}
	return length, distance
}

// rulePieces: the tokens of P20.1, place by place, in the words of the document.
func rulePieces(b []byte) []piece {
	var pieces []piece
	var run []byte
	end := func() {
		if len(run) > 0 {
			pieces = append(pieces, piece{run: run})
			run = nil
		}
	}
	for i := 0; i < len(b); {
		length, distance := ruleLongest(b, i)
		if length >= 4 {
			end()
			pieces = append(pieces, piece{length: length, distance: distance})
			i += length
			continue
		}
		run = append(run, b[i])
		if len(run) == 128 {
			end()
		}
		i++
	}
	end()
	return pieces
}

func rulePack(b []byte) []byte { return lay(len(b), rulePieces(b)) }

// ruleUnpack: P20.2 in the words of the document; the plain bytes, the number of tokens, the error.
func ruleUnpack(p []byte) ([]byte, int, api.Errno) {
	if len(p) < 4 {
		return nil, 0, api.ErrShort
	}
	n := int(p[0]) + 256*int(p[1]) + 65536*int(p[2]) + 16777216*int(p[3])
	if n > 65536 {
		return nil, 0, api.ErrPacked
	}
	var plain []byte
	tokens := 0
	for at := 4; at < len(p); tokens++ {
		size, made, distance := 3, int(p[at])-124, 0
		if p[at] < 128 {
			size, made = int(p[at])+2, int(p[at])+1
		}
		if at+size > len(p) {
			return nil, 0, api.ErrShort
		}
		if p[at] >= 128 {
			distance = int(p[at+1]) + 256*int(p[at+2]) + 1
		}
		if distance > len(plain) || len(plain)+made > n {
			return nil, 0, api.ErrPacked
		}
		for j := range made {
			if distance > 0 {
				plain = append(plain, plain[len(plain)-distance])
			} else {
				plain = append(plain, p[at+1+j])
			}
		}
		at += size
	}
	if len(plain) < n || !bytes.Equal(rulePack(plain), p) {
		return nil, 0, api.ErrPacked
	}
	return plain, tokens, api.OK
}

// dice: numbers that are the same in every run of the tests.
type dice uint64

func (d *dice) below(n int) int {
	*d = *d*6364136223846793005 + 1442695040888963407
	return int(uint64(*d) >> 33 % uint64(n))
}

// bytes: n of them, below kinds, each on its own.
func (d *dice) bytes(n, kinds int) []byte {
	out := make([]byte, n)
	for i := range out {
		out[i] = byte(d.below(kinds))
	}
	return out
}

// patched: n bytes made of new pieces and of pieces that stood before, near and far, so that there are matches of all lengths.
func (d *dice) patched(n int) []byte {
	var out []byte
	kinds := []int{2, 3, 20, 256}[d.below(4)]
	for len(out) < n {
		long := 1 + d.below([]int{3, 8, 40, 300}[d.below(4)])
		if len(out) == 0 || d.below(3) == 0 {
			out = append(out, d.bytes(long, kinds)...)
			continue
		}
		back := 1 + d.below(len(out))
		if d.below(2) == 0 {
			back = 1 + d.below(min(len(out), 9))
		}
		for range long {
			out = append(out, out[len(out)-back])
		}
	}
	return out[:n]
}

// pages: as a tree's pages are: mostly zeros, some words, some pages twice.
func (d *dice) pages(count int) []byte {
	var out []byte
	for range count {
		one := make([]byte, api.PageBytes)
		for range d.below(12) {
			one[d.below(len(one))] = byte(d.below(256))
		}
		if len(out) > 0 && d.below(4) == 0 {
			from := d.below(len(out)/api.PageBytes) * api.PageBytes
			one = slices.Clone(out[from : from+api.PageBytes])
		}
		out = append(out, one...)
	}
	return out
}

// noFourTwice: n bytes, at most 65536, no four of which stand twice: a counter, its higher byte first.
func noFourTwice(n int) []byte {
	out := make([]byte, n)
	for i := range out {
		if i%2 == 0 {
			out[i] = byte(i / 2 / 256)
		} else {
			out[i] = byte(i / 2 % 256)
		}
	}
	return out
}

// samples: plain bytes of many forms, of at most some thousand bytes.
func samples(seeds int) [][]byte {
	var list [][]byte
	for seed := range seeds {
		d := dice(seed)
		list = append(list,
			d.bytes(d.below(700), 1+d.below(4)),
			d.bytes(d.below(700), 256),
			d.patched(d.below(3000)),
			d.patched(d.below(300)),
			d.pages(d.below(10)),
			slices.Repeat(d.bytes(1+d.below(140), 256), 1+d.below(6)))
	}
	return list
}
