package squeeze

import (
	"bytes"

	"amber/api"
)

// unpack tells the plain bytes of a packed text, and how many tokens it has.
func unpack(p []byte) ([]byte, int, api.Errno) {
	if len(p) < headBytes {
		return nil, 0, api.ErrShort
	}
	length := fourAt(p, 0)
	if length > api.MaxPlain {
		return nil, 0, api.ErrPacked
	}
	plain, tokens, code := readTokens(p[headBytes:], int(length))
	if code != api.OK {
		return nil, 0, code
	}
	if len(plain) < int(length) || !bytes.Equal(pack(plain), p) {
		return nil, 0, api.ErrPacked
	}
	return plain, tokens, api.OK
}

// readTokens tells what the tokens make, at most length bytes, and how many they are.
func readTokens(p []byte, length int) ([]byte, int, api.Errno) {
	var plain []byte
	tokens := 0
	for len(p) > 0 {
		t, whole := readToken(p)
		if !whole {
			return nil, 0, api.ErrShort
		}
		if t.distance > len(plain) || t.makes > length-len(plain) {
			return nil, 0, api.ErrPacked
		}
		plain = t.join(plain, p)
		p = p[t.takes:]
		tokens++
	}
	return plain, tokens, api.OK
}

// token: how many packed bytes it takes, how many plain bytes it makes, and a copy's distance, which is 0 in a plain run.
type token struct{ takes, makes, distance int }

// readToken reads the first token; false, if it is not all there.
func readToken(p []byte) (token, bool) {
	first := int(p[0])
	if first < copyMark {
		t := token{takes: first + 2, makes: first + 1}
		return t, t.takes <= len(p)
	}
	if len(p) < copyBytes {
		return token{}, false
	}
	m := int(p[1]) | int(p[2])<<8
	return token{takes: copyBytes, makes: first - copyMark + minCopy, distance: m + 1}, true
}

// join lays what the token, with which p begins, makes behind the plain bytes so far. It copies byte by byte, for a copy may reach into what it makes itself.
func (t token) join(plain, p []byte) []byte {
	if t.distance == 0 {
		return append(plain, p[1:t.takes]...)
	}
	for range t.makes {
		plain = append(plain, plain[len(plain)-t.distance])
	}
	return plain
}
