package squeeze

// none stands where there is no such place.
const none = -1

// sameBefore tells of each place the nearest one ahead of it at which the same four bytes stand, or none. So the places at which a copy may begin are gone through from the nearest on, and no other.
func sameBefore(b []byte) []int {
	before := make([]int, len(b))
	last := map[uint32]int{}
	for at := range b {
		before[at] = none
		if len(b)-at < minCopy {
			continue
		}
		four := fourAt(b, at)
		if place, there := last[four]; there {
			before[at] = place
		}
		last[four] = at
	}
	return before
}

func fourAt(b []byte, at int) uint32 {
	return uint32(b[at]) | uint32(b[at+1])<<8 | uint32(b[at+2])<<16 | uint32(b[at+3])<<24
}

// longest tells the longest match at a place, if it is long enough for a copy, and the smallest distance at which it stands; else 0 and 0. No distance is too great to be told: it is less than api.MaxPlain.
func longest(b []byte, before []int, at int) (length, distance int) {
	most := min(maxCopy, len(b)-at)
	for place := before[at]; place != none && length < most; place = before[place] {
		// Most places fall away here, for a longer match must have the byte at which the one so far ends.
		if b[place+length] != b[at+length] {
			continue
		}
		if n := agree(b, place, at, most); n > length {
			length, distance = n, at-place
		}
	}
	return length, distance
}

// agree tells in how many bytes, at most so many, b from x on and b from y on agree.
func agree(b []byte, x, y, most int) int {
	n := 0
	for n < most && b[x+n] == b[y+n] {
		n++
	}
	return n
}
