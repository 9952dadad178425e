package wire

import (
	"amber/api"
	"amber/crc"
)

// Pack writes numbers by a shape.
func Pack(shape string, vals []int) (packed []byte, code api.Errno) {
	defer func() {
		if gone := recover(); gone != nil {
			packed, code = nil, gone.(api.Errno)
		}
	}()
	units := readShape(shape)
	if len(vals) != countLetters(units) {
		panic(api.ErrCount)
	}
	w := NewWriter(maxWire)
	packUnits(w, units, vals)
	return w.Out()
}

// Unpack reads them back.
func Unpack(shape string, data []byte) (vals []int, code api.Errno) {
	defer func() {
		if gone := recover(); gone != nil {
			vals, code = nil, gone.(api.Errno)
		}
	}()
	units := readShape(shape)
	r := NewReader(data)
	vals = unpackUnits(r, units, nil)
	goOn(r.End())
	return vals, api.OK
}

// goOn gives up with an error, if it is one.
func goOn(code api.Errno) {
	if code != api.OK {
		panic(code)
	}
}

// packUnits answers the numbers that are left for what stands behind the units.
func packUnits(w *Writer, units []unit, vals []int) []int {
	for _, u := range units {
		for range u.times {
			if u.letter == group {
				w.Open()
				vals = packUnits(w, u.within, vals)
				w.Seal()
			} else {
				put := putter(w, u.letter)
				put(vals[0])
				vals = vals[1:]
			}
			goOn(w.Err())
		}
	}
	return vals
}

// unpackUnits answers vals with the numbers that it read behind them.
func unpackUnits(r *Reader, units []unit, vals []int) []int {
	for _, u := range units {
		for range u.times {
			if u.letter == group {
				vals = unpackGroup(r, u.within, vals)
			} else {
				get := getter(r, u.letter)
				vals = append(vals, get())
			}
			goOn(r.Err())
		}
	}
	return vals
}

// unpackGroup doesn't know where the body ends until it has read it, so the sum can't be asked for ahead, as Sealed does.
func unpackGroup(r *Reader, within []unit, vals []int) []int {
	ahead := r.unread
	vals = unpackUnits(r, within, vals)
	body := ahead[:len(ahead)-r.Left()]
	sum := r.U32()
	goOn(r.Err())
	if sum != crc.Sum(body) {
		panic(api.ErrSeal)
	}
	return vals
}

func putter(w *Writer, letter byte) func(int) {
	switch letter {
	case 'b':
		return w.U8
	case 'h':
		return w.U16
	case 'w':
		return w.word
	}
	return w.U64
}

func getter(r *Reader, letter byte) func() int {
	switch letter {
	case 'b':
		return r.U8
	case 'h':
		return r.U16
	case 'w':
		return r.word
	}
	return r.U64
}
