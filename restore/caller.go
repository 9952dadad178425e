package restore

import (
	"amber/api"
	"amber/gate"
)

// itself: the es by which the caller of a native call names itself.
const itself = -1

// caller: the environment that a tree is made for. All that is asked of the kernel is asked here, by Call and in its name.
type caller struct {
	k   *gate.Kernel
	env int
}

func (c caller) ask(call int, data []byte, args ...int) api.Reply {
	r := api.Request{Call: call, Data: data}
	copy(r.A[:], args)
	return c.k.Call(c.env, r)
}

// list: the caller's capabilities, by slot; a thing's number is nobody's business.
func (c caller) list() []api.Held {
	var told []api.Held
	for _, row := range c.ask(api.NatCaps, nil, itself, 0).Rows {
		told = append(told, api.Held{Env: c.env, Slot: row[0], Cap: api.Cap{Kind: row[1], Rights: row[2], Serial: row[3]}})
	}
	return told
}
