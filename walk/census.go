package walk

import "amber/api"

// census: the capabilities of a tree, with what they name numbered by first sight.
type census struct {
	caps    []api.CapRec
	classes []sight // the first capability seen on each
	outs    []api.OutRec
}

// takeCensus goes through them by place, then slot. Serials are given once, so a serial alone is a thing's name, whatever its kind.
func takeCensus(seen []sight) census {
	var c census
	inside, classes, outs := owned(seen), map[int]int{}, map[int]int{}
	for _, s := range seen {
		rec := s.rec
		switch {
		case s.named >= 0:
			rec.In, rec.Obj = true, s.named
		case inside[s.serial] > 0:
			rec.In, rec.Obj = true, number(classes, s.serial)
			if rec.Obj == len(c.classes) {
				c.classes = append(c.classes, s)
			}
		default:
			rec.Obj = number(outs, s.serial)
			if rec.Obj == len(c.outs) {
				c.outs = append(c.outs, api.OutRec{Kind: rec.Kind, Serial: s.serial})
			}
		}
		c.caps = append(c.caps, rec)
	}
	return c
}

// owned: how many capabilities with the right Own there are on each frame. They all count ahead of the first that is numbered: the owner may be seen last.
func owned(seen []sight) map[int]int {
	owners := map[int]int{}
	for _, s := range seen {
		if s.rec.Kind == api.KindFrame && s.rec.Rights&api.Own != 0 {
			owners[s.serial]++
		}
	}
	return owners
}

// number: of a serial that was numbered before, or else the next.
func number(numbers map[int]int, serial int) int {
	n, known := numbers[serial]
	if !known {
		n = len(numbers)
		numbers[serial] = n
	}
	return n
}
