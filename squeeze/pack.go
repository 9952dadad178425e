package squeeze

// pack makes the packed text of at most api.MaxPlain bytes.
func pack(b []byte) []byte {
	n := len(b)
	out := []byte{byte(n), byte(n >> 8), byte(n >> 16), byte(n >> 24)}
	before := sameBefore(b)
	open := 0 // where the plain run that is open begins
	for at := 0; at < n; {
		length, distance := longest(b, before, at)
		if length == 0 {
			at++
			continue
		}
		out = layRuns(out, b[open:at])
		out = layCopy(out, length, distance)
		at += length
		open = at
	}
	return layRuns(out, b[open:])
}

// layRuns lays plain bytes down in runs, of which only the last may have fewer than maxRun.
func layRuns(out, plain []byte) []byte {
	for len(plain) > 0 {
		n := min(len(plain), maxRun)
		out = append(out, byte(n-1))
		out = append(out, plain[:n]...)
		plain = plain[n:]
	}
	return out
}

func layCopy(out []byte, length, distance int) []byte {
	m := distance - 1
	return append(out, byte(copyMark+length-minCopy), byte(m), byte(m>>8))
}
