package env

import "amber/api"

// book: an environment's quota book. What is carved is not kept: it is the quota less what is paid and left.
type book struct {
	paid, left api.Quota
}

// affords tells whether q is left.
func (b *book) affords(q api.Quota) bool { return fits(q, b.left) }

// carve takes for a child what is known to be left.
func (b *book) carve(q api.Quota) { b.left = less(b.left, q) }

// regain is given back what was carved for a child.
func (b *book) regain(q api.Quota) { b.left = plus(b.left, q) }

func (b *book) pay(q api.Quota) api.Errno {
	if !isGood(q) {
		return api.ErrArg
	}
	if !b.affords(q) {
		return api.ErrNoSpace
	}
	b.paid, b.left = plus(b.paid, q), less(b.left, q)
	return api.OK
}

func (b *book) refund(q api.Quota) api.Errno {
	if !isGood(q) || !fits(q, b.paid) {
		return api.ErrArg
	}
	b.paid, b.left = less(b.paid, q), plus(b.left, q)
	return api.OK
}

// price tells what is carved for a child of this quota: the child itself is an environment too.
func price(q api.Quota) api.Quota { return plus(q, api.Quota{Envs: 1}) }

func plus(a, b api.Quota) api.Quota {
	return api.Quota{Frames: a.Frames + b.Frames, Envs: a.Envs + b.Envs, Extents: a.Extents + b.Extents}
}

func less(a, b api.Quota) api.Quota {
	return api.Quota{Frames: a.Frames - b.Frames, Envs: a.Envs - b.Envs, Extents: a.Extents - b.Extents}
}

// fits tells whether no part of a is above the same part of b.
func fits(a, b api.Quota) bool {
	return a.Frames <= b.Frames && a.Envs <= b.Envs && a.Extents <= b.Extents
}

// isGood tells whether each part may be; sums and differences of such quotas do not wrap round.
func isGood(q api.Quota) bool { return q == bounded(q) }

// bounded brings each part to the nearest number that may be.
func bounded(q api.Quota) api.Quota {
	return api.Quota{Frames: part(q.Frames), Envs: part(q.Envs), Extents: part(q.Extents)}
}

func part(n int) int { return min(max(n, 0), api.MaxSerial) }
