package store

import (
	"amber/api"
	"amber/gate"
)

const (
	itself   = -1 // the es by which the caller of a native call names itself
	lowest   = -1 // the extent by which a claimer leaves the choice to the kernel
	noSerial = 0  // serials are 1 and more
)

// holder: the environment that a store acts for. All that is asked of the kernel is asked here, by Call and in its name.
type holder struct {
	k           *gate.Kernel
	env, serial int
}

// claim: an extent, and the slot and serial that it had when it was claimed.
type claim struct {
	extent, slot, serial int
}

// place: a sector of the extent that a slot names.
type place struct {
	slot, sector int
}

// sectorOf: where the sector i of an image lies.
func sectorOf(on []claim, i int) place {
	return place{slot: on[i/api.ExtSectors].slot, sector: i % api.ExtSectors}
}

func (h holder) ask(call int, data []byte, args ...int) api.Reply {
	r := api.Request{Call: call, Data: data}
	copy(r.A[:], args)
	return h.k.Call(h.env, r)
}

// serialNow: of the environment that has the number now, whichever it is.
func (h holder) serialNow() int {
	reply := h.ask(api.NatEnv, nil, itself, 0)
	if reply.Code != api.OK {
		return noSerial
	}
	return reply.Rows[0][7]
}

func (h holder) lives() bool { return h.serialNow() == h.serial }

// list: what lies in the environment's slots; a free one has no serial.
func (h holder) list() [api.MaxSlots]api.Cap {
	var list [api.MaxSlots]api.Cap
	for _, row := range h.ask(api.NatCaps, nil, itself, 0).Rows {
		list[row[0]] = api.Cap{Kind: row[1], Rights: row[2], Serial: row[3]}
	}
	return list
}

// still: the slot is the store's yet. Serials are given once, so the serial alone tells that it is the extent of then.
func (c claim) still(list [api.MaxSlots]api.Cap) bool { return list[c.slot].Serial == c.serial }

func (c claim) good(list [api.MaxSlots]api.Cap) bool {
	const needed = api.Read | api.Write
	return c.still(list) && list[c.slot].Rights&needed == needed
}

func (h holder) drop(claims []claim) {
	for _, c := range claims {
		h.ask(api.CallDrop, nil, c.slot)
	}
}

func (h holder) read(from place) ([]byte, api.Errno) {
	reply := h.ask(api.NatRead, nil, from.slot, from.sector)
	return reply.Data, reply.Code
}

func (h holder) write(to place, sector []byte) api.Errno {
	return h.ask(api.NatWrite, sector, to.slot, to.sector).Code
}

func (h holder) flush() api.Errno { return h.ask(api.NatFlush, nil).Code }

// fetch reads an image of that length from the first of the claims on.
func (h holder) fetch(length int, on []claim) ([]byte, api.Errno) {
	var data []byte
	for i := 0; len(data) < length; i++ {
		sector, code := h.read(sectorOf(on, i))
		if code != api.OK {
			return nil, code
		}
		data = append(data, sector...)
	}
	return data[:length:length], api.OK
}

// newest: the superblock that counts; the zero one, if none is valid.
func (h holder) newest(home claim) (superblock, api.Errno) {
	var counts superblock
	for sector := range copies {
		data, code := h.read(place{slot: home.slot, sector: sector})
		if code != api.OK {
			return superblock{}, code
		}
		b := readSuperblock(data)
		if b.validIn(home.extent, sector, data) && b.gen > counts.gen {
			counts = b
		}
	}
	return counts, api.OK
}

// taking: claims that are made one by one, and given back together where they are not kept.
type taking struct {
	holder
	claims []claim
	kept   bool
}

func (t *taking) claim(n int) api.Errno {
	reply := t.ask(api.NatClaim, nil, n)
	if reply.Code != api.OK {
		return reply.Code
	}
	slot, extent := reply.V[0], reply.V[1]
	t.claims = append(t.claims, claim{extent: extent, slot: slot, serial: t.list()[slot].Serial})
	return api.OK
}

// giveBack is deferred where claims are made: whichever way the call ends, none is left over.
func (t *taking) giveBack() {
	if !t.kept {
		t.drop(t.claims)
	}
}
