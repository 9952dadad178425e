package caps

import "amber/api"

// record: a capability, and the place of the one from which it was derived.
type record struct {
	cap  api.Cap
	from api.Place // nowhere for a root
}

// pair: a kind with a number of that kind.
type pair struct{ kind, number int }

func (r record) kind() int { return r.cap.Kind }

func (r record) object() pair { return pair{r.cap.Kind, r.cap.Obj} }

func (r record) thing() pair { return pair{r.cap.Kind, r.cap.Serial} }

func (r record) parent() api.Place { return r.from }

// has tells whether all of these rights are the capability's.
func (r record) has(rights int) bool { return rights&^r.cap.Rights == 0 }

// test: which capabilities a search is for.
type test func(record) bool

// same: those with this value of a field, or of several taken as one.
func same[T comparable](field func(record) T, value T) test {
	return func(r record) bool { return field(r) == value }
}

// mayBe tells whether a capability is made of numbers that may be.
func mayBe(c api.Cap) bool {
	return c.Kind >= api.KindFrame && c.Kind <= api.KindExtent &&
		c.Obj >= 0 && c.Obj <= api.MaxSerial &&
		c.Serial >= 1 && c.Serial <= api.MaxSerial &&
		areRights(c.Rights)
}

func areRights(rights int) bool { return rights >= 0 && rights <= api.AllRights }
