package run

import (
	"amber/api"
	"amber/gate"
	"amber/isa"
)

// naming: of the guests' calls, the register with the slot of the caller's own list by which a call names a thing; 0: none. Where a call names two, it is the one on the environment that is acted on.
var naming = [api.GuestCalls]int{
	api.CallMap: 2, api.CallDerive: 1, api.CallGrant: 2, api.CallDrop: 1, api.CallRevoke: 1,
	api.CallStart: 1, api.CallNotify: 1, api.CallKill: 1, api.CallInfo: 1, api.CallRead: 1, api.CallWrite: 1,
	api.CallMapIn: 1, api.CallStatus: 1, api.CallSetReg: 1, api.CallGetReg: 1,
}

// Step lets an environment do one instruction; answers are what CallAsk takes from, used up one by one: how many of them were taken.
func Step(k *gate.Kernel, env int, answers []uint32) (api.Event, int) {
	if k == nil || !k.Runs(env) {
		return api.Event{Kind: api.EvNone}, 0
	}
	event, taken := api.Event{Kind: api.EvEnd}, 0
	switch effect := advance(k, env); effect.Kind {
	case api.EffTrap:
		event = fault(k, env, effect.Code)
	case api.EffSys:
		event, taken = serve(k, env, int(effect.Value), answers)
	}
	event.Steps = 1
	return event, taken
}

// advance does the next instruction of an environment that runs, as far as it goes without the gate. It leaves to its caller the system call of an EffSys, the PC being past it, and the fault of an EffTrap, the registers being as they were; any other effect is done.
func advance(k *gate.Kernel, env int) api.Effect {
	x, _ := k.Env(env)
	word, code := k.Load(env, x.Regs.PC)
	if code != api.OK {
		return trap(code)
	}
	regs, effect := isa.Exec(x.Regs, word)
	switch effect.Kind {
	case api.EffTrap:
		return effect
	case api.EffLoad:
		word, code = k.Load(env, effect.Addr)
	case api.EffStore:
		code = k.Store(env, effect.Addr, effect.Value)
	}
	if code != api.OK {
		return trap(code)
	}
	k.SetRegs(env, isa.Finish(regs, effect, word))
	return effect
}

func trap(code api.Errno) api.Effect { return api.Effect{Kind: api.EffTrap, Code: code} }

// fault makes an environment faulted; its event.
func fault(k *gate.Kernel, env int, code api.Errno) api.Event {
	k.Fault(env, code)
	return api.Event{Kind: api.EvFault, Code: code}
}

// serve makes a system call for an environment that has come to one, and hands it what came back; the event, and how many answers were taken.
func serve(k *gate.Kernel, env, call int, answers []uint32) (api.Event, int) {
	x, _ := k.Env(env)
	event := api.Event{Kind: api.EvSys, Call: call}
	copy(event.A[:], x.Regs.R[1:])
	event.Serial = named(k, env, call, x.Regs) // ahead of the call, which may empty the slot
	reply, taken := answer(k, env, event, answers)
	event.Code = reply.Code
	for i := range event.V {
		event.V[i] = uint32(reply.V[i])
	}
	handBack(k, env, event)
	return event, taken
}

// named: the serial of what a call names by a slot; 0, if it names nothing.
func named(k *gate.Kernel, env, call int, regs api.Regs) int {
	if call >= len(naming) || naming[call] == 0 {
		return 0
	}
	return k.SerialOf(env, int(regs.R[naming[call]]))
}

// answer: ask is answered here, because the gate has no answers; all else by the gate.
func answer(k *gate.Kernel, env int, event api.Event, answers []uint32) (api.Reply, int) {
	if event.Call != api.CallAsk {
		r := api.Request{Call: event.Call}
		for i, v := range event.A {
			r.A[i] = int(v)
		}
		return k.Guest(env, r), 0
	}
	if len(answers) == 0 {
		return api.Reply{Code: api.ErrState}, 0
	}
	return api.Reply{V: [4]int{int(answers[0])}}, 1
}

// handBack reads the registers anew: the call may have set them, where an environment holds a capability on itself.
func handBack(k *gate.Kernel, env int, event api.Event) {
	x, code := k.Env(env)
	if code != api.OK {
		return
	}
	x.Regs.R[0] = uint32(event.Code)
	copy(x.Regs.R[1:], event.V[:])
	k.SetRegs(env, x.Regs)
}
