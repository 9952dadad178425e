package image

import "amber/api"

// Check tells whether an image is one.
func Check(im api.Image) error {
	switch {
	case !numbersHold(im):
		return broken(inHeader)
	case !keysHold(im.Keys) || !refsHold(im):
		return broken(inClasses)
	case len(im.Forest.Pages) != ownPages(im.Refs):
		return broken(inPages)
	}
	return forestRules(im.Forest, len(im.Keys))
}

// Valid tells whether a forest with as many pages as classes is one that a tree can have.
func Valid(f api.Forest) error {
	if len(f.Pages) > api.MaxFrames {
		return broken(inPages)
	}
	return forestRules(f, len(f.Pages))
}

func broken(section int) error { return &Fault{section, ErrForest} }

// forestRules: a rule leans on those ahead of it: where they hold, places and classes may be used to look something up.
func forestRules(f api.Forest, classes int) error {
	switch {
	case !envsHold(f.Envs):
		return broken(inEnvs)
	case !outsHold(f.Outs):
		return broken(inOuts)
	case !capsHold(f, classes) || !inOrder(f, classes) || !owned(f.Caps, classes) || !derived(f.Caps):
		return broken(inCaps)
	case !mapsHold(f):
		return broken(inMaps)
	case !paid(f):
		return broken(inEnvs)
	}
	return nil
}

func within(v, low, high int) bool { return low <= v && v <= high }

func has(rights, wanted int) bool { return rights&wanted == wanted }

// distinct tells whether no two are alike.
func distinct[T comparable](list []T) bool {
	seen := map[T]int{}
	for _, v := range list {
		seen[v]++
	}
	return len(seen) == len(list)
}

func numbersHold(im api.Image) bool {
	if !within(im.Gen, 1, api.MaxGen) {
		return false
	}
	if !im.Incr {
		return im.Prev == 0 && im.PrevIdent == 0
	}
	return im.Prev >= 1 && im.Prev == im.Gen-1
}

func keysHold(keys []api.Key) bool {
	if len(keys) > api.MaxFrames {
		return false
	}
	var serials []int
	for _, k := range keys {
		if !within(k.Serial, 1, api.MaxSerial) || !within(k.Mark, 0, api.MaxSerial) {
			return false
		}
		serials = append(serials, k.Serial)
	}
	return distinct(serials)
}

func refsHold(im api.Image) bool {
	greatest := -1
	if im.Incr {
		greatest = api.MaxFrames - 1
	}
	for _, ref := range im.Refs {
		if !within(ref, -1, greatest) {
			return false
		}
	}
	return len(im.Refs) == len(im.Keys)
}

func ownPages(refs []int) int {
	n := 0
	for _, ref := range refs {
		if ref == -1 {
			n++
		}
	}
	return n
}

func envsHold(envs []api.EnvRec) bool {
	if !within(len(envs), 1, api.MaxEnvs) {
		return false
	}
	for i, e := range envs {
		if !parentHolds(envs, i) || !envHolds(e) {
			return false
		}
	}
	return envs[0].Frozen
}

// parentHolds goes up from the environment ahead; those have been looked at, so the way up ends.
func parentHolds(envs []api.EnvRec, i int) bool {
	parent := envs[i].Parent
	above := i - 1
	for above != -1 && above != parent {
		above = envs[above].Parent
	}
	return above == parent && (parent == -1) == (i == 0)
}

func envHolds(e api.EnvRec) bool {
	return within(e.State, api.Idle, api.Faulted) &&
		within(e.Code, 0, api.MaxWord) &&
		within(e.Bits, 0, api.MaxWord) &&
		within(e.Quota.Frames, 0, api.MaxFrames) &&
		within(e.Quota.Envs, 0, api.MaxEnvs-1) &&
		within(e.Quota.Extents, 0, api.MaxExtents)
}

func outsHold(outs []api.OutRec) bool {
	for _, o := range outs {
		if !within(o.Kind, api.KindFrame, api.KindExtent) || !within(o.Serial, 1, api.MaxSerial) {
			return false
		}
	}
	return distinct(outs)
}

func capsHold(f api.Forest, classes int) bool {
	last := -1
	for _, c := range f.Caps {
		if !within(c.Env, 0, len(f.Envs)-1) || !within(c.Slot, 0, api.MaxSlots-1) {
			return false
		}
		at := c.Env*api.MaxSlots + c.Slot
		if at <= last || !within(c.Rights, 0, api.AllRights) || !thingHolds(f, classes, c) {
			return false
		}
		last = at
	}
	return true
}

// thingHolds: no thing is of another kind than the three: an out has one of them.
func thingHolds(f api.Forest, classes int, c api.CapRec) bool {
	switch {
	case !c.In:
		return within(c.Obj, 0, len(f.Outs)-1) && f.Outs[c.Obj].Kind == c.Kind
	case c.Kind == api.KindEnv:
		return within(c.Obj, 0, len(f.Envs)-1)
	case c.Kind == api.KindFrame:
		return within(c.Obj, 0, classes-1)
	}
	return false
}

// inOrder: numbered by first sight, those that are named are always the lowest ones, so a count tells them.
func inOrder(f api.Forest, classes int) bool {
	inside, outside := 0, 0
	for _, c := range f.Caps {
		var seen *int
		switch {
		case !c.In:
			seen = &outside
		case c.Kind == api.KindFrame:
			seen = &inside
		default:
			continue
		}
		if c.Obj > *seen {
			return false
		}
		*seen = max(*seen, c.Obj+1)
	}
	return inside == classes && outside == len(f.Outs)
}

func owned(caps []api.CapRec, classes int) bool {
	owners := make([]int, classes)
	for _, c := range caps {
		if c.Kind != api.KindFrame || !has(c.Rights, api.Own) {
			continue
		}
		if !c.In {
			return false
		}
		owners[c.Obj]++
	}
	for _, n := range owners {
		if n == 0 {
			return false
		}
	}
	return true
}

// byPlace: the capabilities by where they lie.
func byPlace(caps []api.CapRec) map[api.Place]api.CapRec {
	held := map[api.Place]api.CapRec{}
	for _, c := range caps {
		held[placeOf(c)] = c
	}
	return held
}

func placeOf(c api.CapRec) api.Place { return api.Place{Env: c.Env, Slot: c.Slot} }

func isNone(p api.Place) bool { return p == api.Place{Env: -1, Slot: -1} }

func derived(caps []api.CapRec) bool {
	held := byPlace(caps)
	for _, c := range caps {
		if isNone(c.From) {
			continue
		}
		from, there := held[c.From]
		if !there || !sameThing(c, from) || !has(from.Rights, api.Grant|c.Rights) {
			return false
		}
	}
	return ringless(caps, held)
}

func sameThing(c, d api.CapRec) bool {
	return c.Kind == d.Kind && c.In == d.In && c.Obj == d.Obj
}

// ringless goes up from each, but not where another went before it: whoever meets its own way goes round in a ring.
func ringless(caps []api.CapRec, held map[api.Place]api.CapRec) bool {
	wentBy := map[api.Place]int{}
	for i, c := range caps {
		way := i + 1
		at := placeOf(c)
		for !isNone(at) && wentBy[at] == 0 {
			wentBy[at] = way
			at = held[at].From
		}
		if !isNone(at) && wentBy[at] == way {
			return false
		}
	}
	return true
}

func mapsHold(f api.Forest) bool {
	held := byPlace(f.Caps)
	last := -1
	for _, m := range f.Maps {
		if !within(m.Env, 0, len(f.Envs)-1) || !within(m.V, 0, api.MaxPages-1) {
			return false
		}
		at := m.Env*api.MaxPages + m.V
		c, there := held[api.Place{Env: m.Env, Slot: m.Slot}]
		if at <= last || !there || c.Kind != api.KindFrame || !has(c.Rights, needed(m)) {
			return false
		}
		last = at
	}
	return true
}

func needed(m api.MapRec) int {
	if m.Write {
		return api.Read | api.Write
	}
	return api.Read
}

// paid: every quota is enough for what is paid from it.
func paid(f api.Forest) bool {
	pays := make([]api.Quota, len(f.Envs))
	for _, c := range f.Caps {
		switch c.Kind {
		case api.KindFrame:
			pays[c.Env].Frames++
		case api.KindExtent:
			pays[c.Env].Extents++
		}
	}
	for _, e := range f.Envs[1:] {
		p := &pays[e.Parent]
		p.Frames += e.Quota.Frames
		p.Envs += 1 + e.Quota.Envs
		p.Extents += e.Quota.Extents
	}
	for i, e := range f.Envs {
		if pays[i].Frames > e.Quota.Frames || pays[i].Envs > e.Quota.Envs || pays[i].Extents > e.Quota.Extents {
			return false
		}
	}
	return true
}
