package amber

import (
	"amber/api"
	"amber/disk"
	"amber/gate"
	"amber/rewind"
	"amber/sched"
	"amber/store"
)

// machine: a disk, the kernel that was booted on it, and what a script has under way there.
type machine struct {
	number int
	disk   *disk.Disk
	kernel *gate.Kernel
	store  *store.Store // nil: none is open
	holder int          // the environment in whose name the store was opened
	plan   *sched.Plan
	trip   *rewind.Trip
}

func newMachine(number int, d *disk.Disk, serial int) *machine {
	return &machine{number: number, disk: d, kernel: gate.Boot(d, serial)}
}

// crash takes the machine down and up again: what lay in memory is forgotten, so all that a script has under way here is too.
func (m *machine) crash(keep []bool) int {
	kept := m.disk.Crash(keep)
	*m = *newMachine(m.number, m.disk, m.kernel.Serial())
	return kept
}

// tree: how a line names a tree: an environment, and a slot of its list.
type tree struct {
	env, slot int
}

// root: the number of the environment whose tree that is; the slot -1 names the environment itself. The capability's rights don't matter here, so no call of the kernel tells the number.
func (m *machine) root(t tree) (int, api.Errno) {
	if _, code := m.kernel.Env(t.env); code != api.OK {
		return 0, code
	}
	if t.slot == -1 {
		return t.env, api.OK
	}
	for _, c := range m.kernel.State().Caps {
		if c.Held.Env != t.env || c.Held.Slot != t.slot {
			continue
		}
		if c.Held.Cap.Kind != api.KindEnv {
			return 0, api.ErrKind
		}
		return c.Held.Cap.Obj, api.OK
	}
	return 0, api.ErrNoCap
}
