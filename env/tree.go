package env

import (
	"cmp"
	"slices"

	"amber/api"
)

// Children tells them, by serial.
func (t *Table) Children(e int) ([]int, api.Errno) {
	if _, lives := t.envs.Get(e); !lives {
		return nil, api.ErrEnv
	}
	return t.children(e), api.OK
}

// Tree tells an environment and all below it, in preorder.
func (t *Table) Tree(e int) ([]int, api.Errno) {
	if _, lives := t.envs.Get(e); !lives {
		return nil, api.ErrEnv
	}
	return t.walk(e), api.OK
}

// Inside tells whether e is root or below it.
func (t *Table) Inside(root, e int) bool {
	return slices.Contains(t.line(e), root)
}

// Runs tells whether it is ready and neither it nor one above it is flagged.
func (t *Table) Runs(e int) bool {
	r, lives := t.envs.Get(e)
	return lives && r.State == api.Ready && !slices.ContainsFunc(t.line(e), t.flagged)
}

// Find tells the environment with this serial, or -1.
func (t *Table) Find(serial int) int {
	for e, r := range t.envs.All() {
		if r.Serial == serial {
			return e
		}
	}
	return -1
}

// Live tells all numbers in use, rising.
func (t *Table) Live() []int {
	var live []int
	for e := range t.envs.All() {
		live = append(live, e)
	}
	return live
}

// children tells them in the order of their making, which their serials keep and their numbers do not.
func (t *Table) children(e int) []int {
	var found []int
	for n, r := range t.envs.All() {
		if r.Parent == e {
			found = append(found, n)
		}
	}
	slices.SortFunc(found, func(a, b int) int { return cmp.Compare(t.serial(a), t.serial(b)) })
	return found
}

// walk tells an environment that lives, then the walk of each child.
func (t *Table) walk(e int) []int {
	walk := []int{e}
	for _, child := range t.children(e) {
		walk = append(walk, t.walk(child)...)
	}
	return walk
}

// line tells e and all above it, up to environment 0; nothing, if e does not live.
func (t *Table) line(e int) []int {
	var line []int
	for r, lives := t.envs.Get(e); lives; r, lives = t.envs.Get(e) {
		line = append(line, e)
		e = r.Parent
	}
	return line
}

func (t *Table) serial(e int) int {
	r, _ := t.envs.Get(e)
	return r.Serial
}

func (t *Table) flagged(e int) bool {
	r, _ := t.envs.Get(e)
	return r.Frozen
}
