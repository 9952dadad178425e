package store

import (
	"slices"

	"amber/api"
)

// Commit adds an image to the chain, or begins a new one with it.
func (s *Store) Commit(image []byte, full bool) api.Errno {
	if code := s.mayCommit(len(image), full); code != api.OK {
		return code
	}
	t := &taking{holder: s.holder}
	defer t.giveBack()
	for range extentsOf(len(image)) {
		if code := t.claim(lowest); code != api.OK {
			return code
		}
	}
	next := s.next(laid{length: len(image), extents: numbers(t.claims)}, full)
	if code := s.lay(image, t.claims); code != api.OK {
		return code
	}
	if code := s.publish(next); code != api.OK {
		return code
	}
	t.kept = true
	s.adopt(next, t.claims, full)
	return api.OK
}

// mayCommit looks at all that can be told ahead of the first claim.
func (s *Store) mayCommit(length int, full bool) api.Errno {
	if code := s.usable(); code != api.OK {
		return code
	}
	switch images := len(s.last.images); {
	case length < 1 || length > api.MaxImage:
		return api.ErrSize
	case !full && images == 0:
		return api.ErrState
	case !full && images == maxImages || s.last.gen == api.MaxGen:
		return api.ErrNoSpace
	case !s.allGood():
		return api.ErrNoCap
	}
	return api.OK
}

// next: the superblock with the image behind the chain, or alone.
func (s *Store) next(im laid, full bool) superblock {
	var chain []laid
	if !full {
		chain = s.last.images
	}
	return superblock{gen: s.last.gen + 1, images: slices.Concat(chain, []laid{im})}
}

// lay writes an image and sees it onto the medium: the superblock may name only what no crash can lose.
func (s *Store) lay(image []byte, on []claim) api.Errno {
	i := 0
	for piece := range slices.Chunk(image, api.SectorBytes) {
		sector := make([]byte, api.SectorBytes)
		copy(sector, piece)
		if code := s.write(sectorOf(on, i), sector); code != api.OK {
			return code
		}
		i++
	}
	return s.flush()
}

// publish writes a superblock over the older of the two, never over the one that counts, and sees it onto the medium.
func (s *Store) publish(b superblock) api.Errno {
	if code := s.write(place{slot: s.home.slot, sector: b.gen % copies}, b.encoded()); code != api.OK {
		return code
	}
	return s.flush()
}

// adopt: the old chain of a full image goes only here, when no crash can bring it back.
func (s *Store) adopt(next superblock, claims []claim, full bool) {
	if full {
		s.drop(s.claims)
		s.claims = nil
	}
	s.claims = append(s.claims, claims...)
	s.last = next
}

func numbers(claims []claim) []int {
	var told []int
	for _, c := range claims {
		told = append(told, c.extent)
	}
	return told
}
