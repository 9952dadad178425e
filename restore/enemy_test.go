package restore_test

import (
	"fmt"
	"testing"

	"amber/api"
	"amber/chain"
	"amber/crc"
	"amber/disk"
	"amber/image"
	"amber/restore"
	"amber/store"
)

// An adversary who writes to the disk whatever it likes, with all sums right where it likes.

func put(b []byte, at int, v uint32) {
	for i := range 4 {
		b[at+i] = byte(v >> (8 * i))
	}
}

func number(b []byte, at int) int {
	return int(b[at]) | int(b[at+1])<<8 | int(b[at+2])<<16 | int(b[at+3])<<24
}

// lay writes images onto the extents from 0 on, and a superblock of that generation onto the extent home, beneath the disk's cache.
func lay(d *disk.Disk, home, gen int, images ...[]byte) {
	block := make([]byte, 128)
	copy(block, "AMBS")
	put(block, 4, uint32(gen))
	block[8] = byte(len(images))
	extent := 0
	for i, data := range images {
		at := 9 + 12*i
		put(block, at, uint32(len(data)))
		for n := range 8 {
			block[at+4+n] = 0xff
			if 4096*n < len(data) {
				block[at+4+n] = byte(extent)
				spread(d, 32*extent, data[4096*n:min(4096*(n+1), len(data))])
				extent++
			}
		}
	}
	put(block, 124, crc.Sum(block[:124]))
	d.Edit(32*home+gen%2, 0, block)
}

func spread(d *disk.Disk, sector int, data []byte) {
	for at := 0; at < len(data); at += 128 {
		d.Edit(sector+at/128, 0, data[at:min(at+128, len(data))])
	}
}

// sealed makes all sums of an image's bytes right, by the lengths that its header tells.
func sealed(b []byte) []byte {
	at := 76
	for s := range 6 {
		end := min(at+number(b, 20+8*s), len(b))
		put(b, 24+8*s, crc.Sum(b[at:end]))
		at = end
	}
	put(b, 68, crc.Sum(b[76:]))
	put(b, 72, crc.Sum(b[:72]))
	return b
}

func encoded(t *testing.T, im api.Image) []byte {
	t.Helper()
	b, err := image.Encode(im)
	if err != nil {
		t.Fatalf("no image: %v", err)
	}
	return b
}

// fullImage: of a forest, with keys that nobody ever gave.
func fullImage(t *testing.T, f api.Forest, gen int) api.Image {
	t.Helper()
	var keys []api.Key
	for class := range f.Pages {
		keys = append(keys, api.Key{Serial: class + 1, Mark: class + 1})
	}
	im, code := chain.Full(f, keys, gen)
	if code != api.OK {
		t.Fatalf("no full image: %d", code)
	}
	return im
}

// TestForgedImages: P18.4: images that are images, of forests that nobody ever had, with bytes turned and the sums made right.
func TestForgedImages(t *testing.T) {
	codes := map[api.Errno]int{}
	for seed := range 600 {
		d := dice(seed)
		m := host(t, &d)
		data := encoded(t, fullImage(t, grown(&d, lendable(m.k, 0)), 1))
		for range d.below(4) {
			data[76+d.below(len(data)-76)] = byte(d.of(0, 1, 2, 3, 15, 255, d.below(256)))
		}
		if !d.one(8) {
			sealed(data)
		}
		// The store must be able to claim the low extents, where the images lie.
		for _, h := range held(m.k, 0, api.KindExtent) {
			do(t, m.k, 0, api.CallDrop, h.Slot)
		}
		lay(m.d, 31, 1+d.below(api.MaxGen-1), data)
		s, code := store.Open(m.k, 0, 31)
		if code != api.OK {
			t.Fatalf("seed %d: Open: %d", seed, code)
		}
		_, code = m.restore(t, fmt.Sprint("seed ", seed), m.k, s, 0)
		codes[code]++
	}
	for _, code := range []api.Errno{api.OK, api.ErrImage, api.ErrStaleCap} {
		if codes[code] < 40 {
			t.Errorf("P18.4: Restore answered %d only %d times: %v", int(code), codes[code], codes)
		}
	}
}

// TestForgedChains: P18.4: chains whose images are each an image; only those that follow one another are a tree.
func TestForgedChains(t *testing.T) {
	codes := map[api.Errno]int{}
	for seed := range 300 {
		d := dice(seed)
		m := newMachine()
		f := grown(&d, nil)
		if len(f.Pages) == 0 {
			continue
		}
		first := fullImage(t, f, 7)
		images := [][]byte{encoded(t, first)}
		base := api.Folded{Forest: f, Keys: first.Keys, Gen: 7}
		for range 1 + d.below(4) {
			f = cloned(f)
			f.Pages[d.below(len(f.Pages))][d.below(32)]++
			next, _ := chain.Next(base, image.Ident(images[len(images)-1]), f, base.Keys)
			switch d.below(12) {
			case 0:
				next.PrevIdent++
			case 1:
				next.Gen, next.Prev = next.Gen+1, next.Prev+1
			case 2:
				// A page that the base has not under that key.
				next.Refs[0] = 63
			}
			base.Gen = next.Gen
			images = append(images, encoded(t, next))
		}
		lay(m.d, 31, 12, images...)
		s := opened(t, m.k, 0, 31)
		slot, code := m.restore(t, fmt.Sprint("seed ", seed), m.k, s, 0)
		codes[code]++
		if code == api.OK && len(f.Envs) != len(read(t, m.k, 0, slot).Envs) {
			t.Errorf("P18.2: seed %d", seed)
		}
	}
	if codes[api.OK] < 80 || codes[api.ErrImage] < 30 || codes[api.OK]+codes[api.ErrImage]+codes[api.ErrNoSpace] < 250 {
		t.Errorf("P18.4: %v", codes)
	}
}

// TestRandomBytes: P18.4: bytes by dice all over the store's extents, ahead of an Open and beneath an open store.
func TestRandomBytes(t *testing.T) {
	codes := map[api.Errno]int{}
	for seed := range 250 {
		d := dice(seed)
		m := example(t, 9)
		s := opened(t, m.k, 0, 31)
		for n := range 1 + d.below(4) {
			stored(t, m.k, 1, 97, uint32(n))
			saved(t, m.k, s, 0, 1, false)
		}
		f := read(t, m.k, 0, 1)
		touched := false
		for range d.below(3) {
			extent := d.of(0, 1, 2, 31)
			before := m.d.Medium()
			m.d.Edit(32*extent+d.below(4), d.below(128), []byte{byte(d.below(256)), byte(d.below(256))}[:1+d.below(2)])
			touched = touched || string(before) != string(m.d.Medium())
		}
		if d.one(2) {
			s.Close()
			s = opened(t, m.k, 0, 31)
		}
		slot, code := m.restore(t, fmt.Sprint("seed ", seed), m.k, s, 0)
		codes[code]++
		if !touched && code != api.OK {
			t.Fatalf("P18.2: seed %d: %d, and nobody touched the disk", seed, code)
		}
		if !touched {
			m.looksAs(t, fmt.Sprint("seed ", seed), 0, slot, f)
		}
	}
	if codes[api.OK] < 60 || codes[api.ErrImage] < 40 {
		t.Errorf("P18.4: %v", codes)
	}
}

// TestEveryByte: P18.4: each byte of a small image turned in turn, its sums right or not: refused, or a tree that is the forest that the bytes tell.
func TestEveryByte(t *testing.T) {
	m := example(t, 1)
	s := opened(t, m.k, 0, 31)
	saved(t, m.k, s, 0, 1, true)
	raws, _ := s.Chain()
	for at := range raws[0] {
		for _, v := range []byte{0, 1, 2, 3, 255, raws[0][at] ^ 0x80} {
			for _, seal := range []bool{false, true} {
				data := append([]byte(nil), raws[0]...)
				if data[at] == v {
					continue
				}
				data[at] = v
				if seal {
					sealed(data)
				}
				spread(m.d, 0, data)
				what := fmt.Sprintf("byte %d is %d, sealed %v", at, v, seal)
				slot, code := m.restore(t, what, m.k, s, 0)
				if !seal && code != api.ErrImage {
					t.Fatalf("P18.4: %s: %d", what, code)
				}
				if code == api.OK {
					fold, _ := chain.Load([][]byte{data})
					m.looksAs(t, what, 0, slot, fold.Forest)
					do(t, m.k, 0, api.CallKill, slot)
				}
			}
		}
	}
}

// TestGreed: P18.4: a forest that asks for all there is, or for a thing of another's, from a caller that has little.
func TestGreed(t *testing.T) {
	m := newMachine()
	do(t, m.k, 0, api.CallAlloc)
	do(t, m.k, 0, api.NatClaim, 5)
	do(t, m.k, 0, api.CallSpawn, 9, 3, 2)
	others := lendable(m.k, 0)
	for _, x := range others {
		f := api.Forest{
			Envs: []api.EnvRec{{Parent: -1, Frozen: true, Quota: api.Quota{Frames: 1, Extents: 1}}},
			Caps: []api.CapRec{{Kind: x.out.Kind, Rights: 0, From: none}},
			Outs: []api.OutRec{x.out},
		}
		m.refuses(t, "P18.4: another's thing", 1, f, api.ErrStaleCap)
		f.Envs[0].Quota = api.Quota{Frames: 64, Envs: 15, Extents: 32}
		m.refuses(t, "P18.4: all there is", 1, f, api.ErrNoSpace)
		f.Envs[0].Quota.Frames++
		m.refuses(t, "P18.4: more than there is", 1, f, api.ErrImage)
	}
	if code := restore.Plan(m.k, 1, api.Forest{Envs: []api.EnvRec{{Parent: -1, Frozen: true, Quota: api.Quota{Frames: 9, Envs: 2, Extents: 2}}}}); code != api.OK {
		t.Errorf("P18.5: Plan = %d", code)
	}
}
