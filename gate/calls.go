package gate

import "amber/api"

// noCall: a number that no call has.
const noCall = -1

// maxQuota: the greatest part of a quota that may be asked for.
const maxQuota = 1 << 20

// setBytes: of the Data of set: the registers and the PC, a word each.
const setBytes = (api.NumRegs + 1) * 4

// What an argument is, as a letter of a row's args: which numbers may be at all. What the letters don't name hangs on the state.
const (
	argFlag     = 'f'
	argRights   = 'r'
	argAim      = 'a'
	argWord     = 'w'
	argQuota    = 'q'
	argState    = 's'
	argRegister = 'n'
)

// names: of the calls, by number; between the guests' calls and the native ones there are none.
var names = [api.NatEnd]string{
	"yield", "exit", "alloc", "map", "unmap", "derive", "grant", "drop", "revoke", "spawn", "start", "notify", "wait",
	"kill", "emit", "info", "read", "write", "protect", "mapin", "left", "status", "setreg", "getreg", "ask",
	api.NatCount: "count", "env", "caps", "maps", "page", "clean", "freeze", "new", "set", "fill", "place", "copy",
	"self", "natmapin", "claim", "natread", "natwrite", "flush", "natleft",
}

// Name tells a call's name, "" if there is none.
func Name(call int) string {
	if call < 0 || call >= len(names) {
		return ""
	}
	return names[call]
}

// row: a call: its arguments, a letter each ('.': any number), the bytes of its Data (0: it is ignored), and what it does.
type row struct {
	args string
	data int
	do   func(k *Kernel, env int, r api.Request) (api.Reply, api.Errno)
}

// rowOf picks the row of a number that a call has.
func rowOf(call int) row {
	rows := [api.NatEnd]row{
		api.CallYield:   {do: (*Kernel).yield},
		api.CallExit:    {args: "w", do: (*Kernel).exit},
		api.CallAlloc:   {do: (*Kernel).alloc},
		api.CallMap:     {args: "..f", do: (*Kernel).mapPage},
		api.CallUnmap:   {do: (*Kernel).unmap},
		api.CallDerive:  {args: ".r", do: (*Kernel).derive},
		api.CallGrant:   {args: "..r", do: (*Kernel).grant},
		api.CallDrop:    {do: (*Kernel).drop},
		api.CallRevoke:  {do: (*Kernel).revoke},
		api.CallSpawn:   {args: "qqq", do: (*Kernel).spawn},
		api.CallStart:   {args: ".w", do: (*Kernel).start},
		api.CallNotify:  {args: ".w", do: (*Kernel).notify},
		api.CallWait:    {do: (*Kernel).wait},
		api.CallKill:    {do: (*Kernel).kill},
		api.CallEmit:    {args: "w", do: (*Kernel).emit},
		api.CallInfo:    {do: (*Kernel).info},
		api.CallRead:    {do: (*Kernel).read},
		api.CallWrite:   {do: (*Kernel).write},
		api.CallProtect: {args: ".f", do: (*Kernel).protect},
		api.CallMapIn:   {args: "...f", do: (*Kernel).mapIn},
		api.CallLeft:    {do: (*Kernel).left},
		api.CallStatus:  {do: (*Kernel).status},
		api.CallSetReg:  {args: ".nw", do: (*Kernel).setReg},
		api.CallGetReg:  {args: ".n", do: (*Kernel).getReg},
		api.CallAsk:     {do: (*Kernel).ask},
		api.NatCount:    {do: (*Kernel).count},
		api.NatEnv:      {do: (*Kernel).tellEnv},
		api.NatCaps:     {do: (*Kernel).tellCaps},
		api.NatMaps:     {do: (*Kernel).tellMaps},
		api.NatPage:     {do: (*Kernel).tellPage},
		api.NatClean:    {do: (*Kernel).clean},
		api.NatFreeze:   {args: "..f", do: (*Kernel).freeze},
		api.NatNew:      {args: "..qqq", do: (*Kernel).newChild},
		api.NatSet:      {args: "..sww", data: setBytes, do: (*Kernel).set},
		api.NatFill:     {data: api.PageBytes, do: (*Kernel).fill},
		api.NatPlace:    {args: "...ar", do: (*Kernel).place},
		api.NatCopy:     {args: "....ar", do: (*Kernel).copyCap},
		api.NatSelf:     {args: "...ar", do: (*Kernel).self},
		api.NatMapIn:    {args: "....f", do: (*Kernel).natMapIn},
		api.NatClaim:    {do: (*Kernel).claim},
		api.NatRead:     {do: (*Kernel).natRead},
		api.NatWrite:    {data: api.SectorBytes, do: (*Kernel).natWrite},
		api.NatFlush:    {do: (*Kernel).flush},
		api.NatLeft:     {do: (*Kernel).natLeft},
	}
	return rows[call]
}

// fits tells whether the numbers and the Data of a request may be, whatever the state is.
func (w row) fits(r api.Request) api.Errno {
	for i := range len(w.args) {
		if !mayBe(w.args[i], r.A[i]) {
			return api.ErrArg
		}
	}
	if w.data != 0 && len(r.Data) != w.data {
		return api.ErrSize
	}
	return api.OK
}

func mayBe(letter byte, n int) bool {
	switch letter {
	case argFlag:
		return within(n, 0, 1)
	case argRights:
		return within(n, 0, api.AllRights)
	case argAim:
		return within(n, lowest, api.MaxSlots-1)
	case argWord:
		return within(n, 0, api.MaxWord)
	case argQuota:
		return within(n, 0, maxQuota)
	case argState:
		return within(n, api.Idle, api.Faulted)
	case argRegister:
		return within(n, 0, api.NumRegs)
	}
	return true
}

func within(n, low, high int) bool { return n >= low && n <= high }
