package slots

import "maps"

// Bij: a one-to-one tie between some As and some Bs. Each pair stands in both maps, so that either side is found at once.
type Bij[A, B comparable] struct {
	to   map[A]B
	back map[B]A
}

// NewBij: nothing is tied.
func NewBij[A, B comparable]() *Bij[A, B] {
	return &Bij[A, B]{to: map[A]B{}, back: map[B]A{}}
}

// Tie ties a to b, if both are free or tied to one another already.
func (j *Bij[A, B]) Tie(a A, b B) bool {
	if old, ok := j.to[a]; ok {
		return old == b
	}
	if _, ok := j.back[b]; ok {
		return false
	}
	j.to[a] = b
	j.back[b] = a
	return true
}

// To tells to what a is tied.
func (j *Bij[A, B]) To(a A) (B, bool) {
	b, ok := j.to[a]
	return b, ok
}

// Back tells what is tied to b.
func (j *Bij[A, B]) Back(b B) (A, bool) {
	a, ok := j.back[b]
	return a, ok
}

// Cut unties a.
func (j *Bij[A, B]) Cut(a A) bool {
	b, ok := j.to[a]
	if !ok {
		return false
	}
	delete(j.to, a)
	delete(j.back, b)
	return true
}

// Len tells how many ties there are.
func (j *Bij[A, B]) Len() int { return len(j.to) }

// Turn gives the tie the other way round, of its own.
func (j *Bij[A, B]) Turn() *Bij[B, A] {
	return &Bij[B, A]{to: maps.Clone(j.back), back: maps.Clone(j.to)}
}
