package run

import (
	"amber/api"
	"amber/gate"
)

// guest: an environment that goes the steps of one pick, in a goroutine of its own. From each stop till it is let on it leaves the kernel alone, so that only one at a time touches it.
type guest struct {
	k       *gate.Kernel
	env     int
	trap    chan stop // a system call
	fault   chan stop
	quantum chan bool // whether the steps are used up; if not, it doesn't run any more
	on      chan bool // whether it goes on behind a system call
}

// stop: the step at which a guest was stopped; of a trap the call's number, of a fault the reason.
type stop struct {
	step, call int
	code       api.Errno
}

func newGuest(k *gate.Kernel, env int) *guest {
	return &guest{k: k, env: env, trap: make(chan stop), fault: make(chan stop), quantum: make(chan bool), on: make(chan bool)}
}

// goes does the steps, one after the other. Whether the environment runs still is asked ahead of whether steps are left: only the end of the steps is told as such.
func (g *guest) goes(steps int) {
	for step := 1; step <= steps; step++ {
		switch effect := advance(g.k, g.env); effect.Kind {
		case api.EffTrap:
			g.fault <- stop{step: step, code: effect.Code}
			return
		case api.EffSys:
			g.trap <- stop{step: step, call: int(effect.Value)}
			if !<-g.on {
				return
			}
		}
		if !g.k.Runs(g.env) {
			g.quantum <- false
			return
		}
	}
	g.quantum <- true
}
