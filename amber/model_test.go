package amber_test

import (
	"encoding/hex"
	"errors"
	"fmt"
	"regexp"
	"slices"
	"strconv"
	"strings"

	"amber/api"
	"amber/audit"
	"amber/chain"
	"amber/ckpt"
	"amber/disk"
	"amber/ferry"
	"amber/gate"
	"amber/image"
	"amber/isa"
	"amber/replay"
	"amber/restore"
	"amber/rewind"
	"amber/run"
	"amber/sched"
	"amber/store"
	"amber/tongue"
	"amber/walk"
)

// The model: chapter 26 once more in its own words, over machines of its own.

// rig: one machine of a model.
type rig struct {
	d    *disk.Disk
	k    *gate.Kernel
	s    *store.Store
	env  int
	plan *sched.Plan
	trip *rewind.Trip
}

type flying struct {
	side  string
	bytes []byte
}

type model struct {
	rigs     [2]*rig
	at       int
	programs map[string][]uint32
	log      []byte
	sender   *ferry.Sender
	receiver *ferry.Receiver
	flight   []flying
}

func newRig() *rig {
	d := disk.New()
	return &rig{d: d, k: gate.Boot(d, 1)}
}

func newModel() *model {
	return &model{rigs: [2]*rig{newRig(), newRig()}, programs: map[string][]uint32{}}
}

// refused: a code that ends a command, and what is told behind it.
type refused struct {
	code   api.Errno
	behind []any
}

func (r refused) Error() string { return strings.TrimSpace(fmt.Sprintln(r.behind...)) }

// ok makes the first line.
func ok(l ...any) string { return fmt.Sprintln(append([]any{"ok"}, l...)...) }

// do does a line that is a command.
func (m *model) do(line string) string {
	line, _, _ = strings.Cut(line, "#")
	f := strings.FieldsFunc(line, func(r rune) bool { return r == ' ' || r == '\t' })
	if len(f) == 0 {
		return ""
	}
	text, err := m.command(f, line)
	var no refused
	if errors.As(err, &no) {
		return fmt.Sprintln(append([]any{"no", int(no.code)}, no.behind...)...)
	}
	return text
}

// when makes an error of a code.
func when(code api.Errno, behind ...any) error {
	if code == api.OK {
		return nil
	}
	return refused{code, behind}
}

// at is a number among the arguments.
func at(f []string, i int) int {
	n, err := strconv.Atoi(f[i])
	if err != nil {
		panic(err)
	}
	return n
}

// text is what stands behind so many tokens.
func text(line string, tokens int) string {
	return regexp.MustCompile(`(?s)^[ \t]*(?:[^ \t]+[ \t]*){` + strconv.Itoa(tokens) + `}(.*)$`).FindStringSubmatch(line)[1]
}

func (m *model) command(f []string, line string) (string, error) {
	r := m.rigs[m.at]
	switch f[0] {
	case "call":
		return r.call(f)
	case "prog", "speak":
		return m.program(f, text(line, 2))
	case "mean":
		return mean(f, text(line, 3))
	case "load":
		return m.load(f)
	case "run", "record", "replay":
		return m.run(f)
	case "forget":
		m.log = nil
		return ok(), nil
	case "open", "close", "save", "wake", "fold", "where", "trip":
		return r.library(f)
	case "tree":
		forest, _, code := walk.Read(r.k, at(f, 1), at(f, 2))
		return ok() + forestText(forest), when(code)
	case "arm", "edit", "raw", "disk":
		return r.disk(f)
	case "crash":
		return m.crash(f[1])
	case "state":
		return stateText(r.k.State()), nil
	case "audit":
		broken := audit.Check(r.k.State())
		told := ok(len(broken))
		for _, b := range broken {
			told += fmt.Sprintln("rule", b.Rule, b.A, b.B)
		}
		return told, nil
	case "swap":
		m.at = 1 - m.at
		return ok(m.at), nil
	case "send", "take", "tick", "land":
		return m.ferry(f)
	case "pass", "lose", "copy", "spoil":
		return m.packet(f)
	case "plan", "weigh", "drive":
		return r.sched(f)
	}
	return r.tripped(f)
}

func (r *rig) call(f []string) (string, error) {
	q := api.Request{Call: at(f, 2)}
	for i := 3; i < len(f); i++ {
		if f[i][0] == ':' {
			q.Data, _ = hex.DecodeString(f[i][1:])
		} else {
			q.A[i-3] = at(f, i)
		}
	}
	got := r.k.Call(at(f, 1), q)
	told := ok(got.V[0], got.V[1], got.V[2], got.V[3])
	if len(got.Data) > 0 {
		told += fmt.Sprintf(": %x\n", got.Data)
	}
	for _, row := range got.Rows {
		told += "= " + strings.Trim(fmt.Sprint(row), "[]") + "\n"
	}
	return told, when(got.Code)
}

func (m *model) program(f []string, source string) (string, error) {
	words, line, code := tongue.Compile(source)
	if f[0] == "prog" {
		words, line, code = isa.Assemble(strings.Join(strings.Split(source, "|"), "\n"))
	}
	if code == api.OK {
		m.programs[f[1]] = words
	}
	return ok(len(words)), when(code, line)
}

func mean(f []string, source string) (string, error) {
	var answers []uint32
	if f[2] != "-" {
		answers = wordsOf(strings.Split(f[2], ","))
	}
	got, line, code := tongue.Eval(source, answers, at(f, 1))
	told := ok(got.State, got.Code, got.Taken, got.Used, len(got.Outs))
	for _, o := range got.Outs {
		told += fmt.Sprintln("out", o.Call, o.Value)
	}
	return told, when(code, line)
}

func wordsOf(tokens []string) []uint32 {
	var l []uint32
	for i := range tokens {
		l = append(l, uint32(at(tokens, i)))
	}
	return l
}

func (m *model) load(f []string) (string, error) {
	words, there := m.programs[f[3]]
	if !there {
		return "", refused{code: api.ErrSlot}
	}
	k, env := m.rigs[m.at].k, at(f, 1)
	var slots []any
	for i := 0; i*32 < len(words); i++ {
		got := k.Call(env, api.Request{Call: api.CallAlloc})
		slot := got.V[0]
		if got.Code == api.OK {
			var data []byte
			for j := i * 32; j < i*32+32; j++ {
				w := uint32(0)
				if j < len(words) {
					w = words[j]
				}
				data = append(data, byte(w), byte(w>>8), byte(w>>16), byte(w>>24))
			}
			got = k.Call(env, api.Request{Call: api.NatFill, A: [6]int{slot}, Data: data})
		}
		if got.Code == api.OK {
			got = k.Call(env, api.Request{Call: api.CallMap, A: [6]int{at(f, 2) + i, slot, 1}})
		}
		if got.Code != api.OK {
			return "", refused{code: got.Code}
		}
		slots = append(slots, slot)
	}
	return ok(slots...), nil
}

// root: the environment that is named, by its serial.
func (r *rig) root(f []string) (int, error) {
	env, slot := at(f, 1), at(f, 2)
	got := r.k.Call(env, api.Request{Call: api.CallInfo, A: [6]int{slot}})
	switch {
	case got.Code == api.ErrEnv:
		return 0, refused{code: api.ErrEnv}
	case slot == -1:
		return env, nil
	case got.Code != api.OK:
		return 0, refused{code: api.ErrNoCap}
	case got.V[0] != 2:
		return 0, refused{code: api.ErrKind}
	}
	for n := range 16 {
		if x, code := r.k.Env(n); code == api.OK && x.Serial == r.k.SerialOf(env, slot) {
			return n, nil
		}
	}
	panic("no such environment")
}

// ordered reads picks and answers.
func ordered(f []string) (picks []api.Pick, answers []uint32) {
	for i, t := range f {
		if t == "?" {
			return picks, wordsOf(f[i+1:])
		}
		a, b, _ := strings.Cut(t, ":")
		picks = append(picks, api.Pick{K: at([]string{a}, 0), Steps: at([]string{b}, 0)})
	}
	return picks, nil
}

func (m *model) run(f []string) (string, error) {
	k := m.rigs[m.at].k
	root, err := m.rigs[m.at].root(f)
	if err != nil {
		return "", err
	}
	if f[0] == "replay" {
		evs, legs, code := replay.Replay(m.log, k, root)
		if code == api.ErrDiverge {
			return "", refused{code, []any{legs}}
		}
		return ok(legs, len(evs)) + eventsText(evs), when(code)
	}
	picks, answers := ordered(f[3:])
	if f[0] == "run" {
		evs, code := run.Run(k, root, picks, answers)
		return ok(len(evs)) + eventsText(evs), when(code)
	}
	log, evs, code := replay.Record(m.log, k, root, picks, answers)
	if code == api.OK {
		m.log = log
	}
	return ok(len(evs)) + eventsText(evs), when(code)
}

func eventsText(evs []api.Event) string {
	told := ""
	for _, e := range evs {
		told += []string{
			fmt.Sprintln("none", e.K),
			fmt.Sprintln("sys", e.K, e.Steps, e.Call, e.A[0], e.A[1], e.A[2], e.A[3], e.A[4], int(e.Code), e.V[0], e.V[1], e.V[2]),
			fmt.Sprintln("fault", e.K, e.Steps, int(e.Code)),
			fmt.Sprintln("end", e.K, e.Steps),
		}[e.Kind]
	}
	return told
}

func (r *rig) library(f []string) (string, error) {
	if (f[0] == "open") != (r.s == nil) {
		return "", refused{code: api.ErrState}
	}
	switch f[0] {
	case "open":
		s, code := store.Open(r.k, at(f, 1), at(f, 2))
		if code != api.OK {
			return "", when(code)
		}
		r.s, r.env = s, at(f, 1)
		return ok(s.Gen()), nil
	case "close":
		code := r.s.Close()
		r.s = nil
		return ok(), when(code)
	case "save":
		saved, code := ckpt.Checkpoint(r.k, r.s, r.env, at(f, 1), f[2] == "full")
		return ok(saved.Gen, saved.Classes, saved.Pages, saved.Bytes, map[bool]string{true: "full", false: "next"}[saved.Full]), when(code)
	case "wake":
		slot, code := restore.Restore(r.k, r.s, r.env)
		return ok(slot), when(code)
	case "trip":
		trip, code := rewind.Start(r.k, r.s, r.env, at(f, 1))
		if code == api.OK {
			r.trip = trip
		}
		return ok(), when(code)
	case "fold":
		folded, err := r.fold()
		return ok(folded.Gen) + forestText(folded.Forest), err
	}
	told := ok(len(r.s.Extents()))
	for _, l := range r.s.Extents() {
		told += strings.Trim(fmt.Sprint(l), "[]") + "\n"
	}
	return told, nil
}

func (r *rig) fold() (api.Folded, error) {
	if r.s == nil {
		return api.Folded{}, refused{code: api.ErrState}
	}
	raws, code := r.s.Chain()
	if code != api.OK {
		return api.Folded{}, when(code)
	}
	folded, code := chain.Load(raws)
	return folded, when(code)
}

func (r *rig) disk(f []string) (string, error) {
	switch f[0] {
	case "arm":
		return ok(), when(r.d.Arm(at(f, 1)))
	case "edit":
		data, _ := hex.DecodeString(f[3][1:])
		return ok(), when(r.d.Edit(at(f, 1), at(f, 2), data))
	case "raw":
		data, code := r.d.Raw(at(f, 1))
		return ok() + fmt.Sprintf(": %x\n", data), when(code)
	}
	l := []any{r.d.Acts(), strings.Count(fmt.Sprint(r.d.Down()), "true")}
	for _, s := range r.d.Pending() {
		l = append(l, s)
	}
	return ok(l...), nil
}

func (m *model) crash(bits string) (string, error) {
	var keep []bool
	for _, c := range strings.Trim(bits, "-") {
		keep = append(keep, c == '1')
	}
	r := m.rigs[m.at]
	kept := r.d.Crash(keep)
	m.rigs[m.at] = &rig{d: r.d, k: gate.Boot(r.d, r.k.Serial())}
	return ok(kept), nil
}

func (m *model) ferry(f []string) (string, error) {
	r := m.rigs[m.at]
	switch f[0] {
	case "send":
		folded, err := r.fold()
		if err != nil {
			return "", err
		}
		cargo, code := ferry.Load(folded.Forest)
		if code != api.OK {
			return "", when(code)
		}
		s, code := ferry.NewSender(cargo)
		if code != api.OK {
			return "", when(code)
		}
		m.sender = s
		return ok(s.Left()), nil
	case "take":
		m.receiver = ferry.NewReceiver()
		return ok(), nil
	case "tick":
		if m.sender == nil {
			return "", refused{code: api.ErrState}
		}
		if len(m.flight) > 4088 {
			return "", refused{code: api.ErrNoSpace}
		}
		l := m.sender.Tick()
		for _, p := range l {
			m.flight = append(m.flight, flying{"receiver", p})
		}
		return ok(len(l)), nil
	}
	return m.land(r)
}

func (m *model) land(r *rig) (string, error) {
	if m.receiver == nil {
		return "", refused{code: api.ErrState}
	}
	cargo, whole := m.receiver.Cargo()
	if !whole || r.s == nil {
		return "", refused{code: api.ErrState}
	}
	f, code := ferry.Unload(cargo)
	if code != api.OK {
		return "", when(code)
	}
	var keys []api.Key
	for i := range f.Pages {
		keys = append(keys, api.Key{Serial: i + 1})
	}
	im, code := chain.Full(f, keys, r.s.Gen()+1)
	if code != api.OK {
		return "", when(code)
	}
	data, err := image.Encode(im)
	if err != nil {
		return "", refused{code: api.ErrImage}
	}
	code = r.s.Commit(data, true)
	return ok(r.s.Gen()), when(code)
}

func (m *model) packet(f []string) (string, error) {
	n := at(f, 1)
	if n < 0 || n >= len(m.flight) {
		return "", refused{code: api.ErrArg}
	}
	p := m.flight[n]
	switch f[0] {
	case "lose":
		m.flight = slices.Delete(m.flight, n, n+1)
		return ok(), nil
	case "copy":
		if len(m.flight) == 4096 {
			return "", refused{code: api.ErrNoSpace}
		}
		m.flight = append(m.flight, flying{p.side, slices.Clone(p.bytes)})
		return ok(), nil
	case "spoil":
		i, mask := at(f, 2), at(f, 3)
		if i < 0 || i >= len(p.bytes) || mask < 0 || mask > 255 {
			return "", refused{code: api.ErrArg}
		}
		m.flight[n].bytes[i] ^= byte(mask)
		return ok(), nil
	}
	if p.side == "sender" && m.sender == nil || p.side == "receiver" && m.receiver == nil {
		return "", refused{code: api.ErrState}
	}
	m.flight = slices.Delete(m.flight, n, n+1)
	if p.side == "sender" {
		code := m.sender.Take(p.bytes)
		return ok(m.sender.Left()), when(code)
	}
	answer, code := m.receiver.Take(p.bytes)
	if code == api.OK {
		m.flight = append(m.flight, flying{"sender", answer})
	}
	have, all := m.receiver.Have()
	return ok(have, all), when(code)
}

func (r *rig) sched(f []string) (string, error) {
	if f[0] == "plan" {
		p, code := sched.New(at(f, 1))
		if code == api.OK {
			r.plan = p
		}
		return ok(), when(code)
	}
	if r.plan == nil {
		return "", refused{code: api.ErrState}
	}
	root, err := r.root(f)
	if err != nil {
		return "", err
	}
	if f[0] == "weigh" {
		tree, _ := r.k.Tree(root)
		if k := at(f, 3); k < 0 || k >= len(tree) {
			return "", refused{code: api.ErrArg}
		}
		x, _ := r.k.Env(tree[at(f, 3)])
		return ok(), when(r.plan.Set(x.Serial, at(f, 4)))
	}
	_, answers := ordered(f[5:])
	evs, chosen, code := sched.Drive(r.k, r.plan, root, at(f, 3), at(f, 4), answers)
	told := ok(len(evs), len(chosen)) + eventsText(evs)
	if len(chosen) > 0 {
		told += "chose " + strings.Trim(fmt.Sprint(chosen), "[]") + "\n"
	}
	return told, when(code)
}

// tripped: the lines that ask for a trip.
func (r *rig) tripped(f []string) (string, error) {
	if r.trip == nil {
		return "", refused{code: api.ErrState}
	}
	switch f[0] {
	case "go":
		evs, code := r.trip.Go(ordered(f[1:]))
		return ok(len(evs)) + eventsText(evs), when(code)
	case "back":
		code := r.trip.Back(at(f, 1))
		behind, all := r.trip.At()
		return ok(behind, all, r.trip.Slot()), when(code)
	case "forth":
		evs, code := r.trip.Forth(at(f, 1))
		behind, all := r.trip.At()
		return ok(behind, all, r.trip.Slot(), len(evs)) + eventsText(evs), when(code)
	}
	for _, i := range []int{4, 5} {
		if n := at(f, i); n < 0 || n > 4294967295 {
			return "", refused{code: api.ErrArg}
		}
	}
	found, code := r.trip.Find(api.Watch{On: at(f, 1), K: at(f, 2), Reg: at(f, 3), Addr: uint32(at(f, 4)), Value: uint32(at(f, 5))})
	return ok(found), when(code)
}

func regsText(r api.Regs) string {
	return strings.Trim(fmt.Sprint(r.R), "[]") + " " + fmt.Sprint(r.PC)
}

func bit(on bool) string {
	if on {
		return "1"
	}
	return "0"
}

func pageText(p api.Page) string {
	s := ""
	for _, w := range p {
		s += fmt.Sprintf("%02x%02x%02x%02x", w&255, w>>8&255, w>>16&255, w>>24)
	}
	return s
}

func stateText(s api.State) string {
	told := ok(s.Serial)
	for _, x := range s.Envs {
		e := x.Env
		told += fmt.Sprintln("env", x.Num, e.Serial, e.Parent, e.State, e.Code, e.Bits, bit(e.Frozen), regsText(e.Regs), e.Quota.Frames, e.Quota.Envs, e.Quota.Extents)
	}
	for _, c := range s.Caps {
		h := c.Held
		told += fmt.Sprintln("cap", h.Env, h.Slot, h.Cap.Kind, h.Cap.Obj, h.Cap.Serial, h.Cap.Rights, c.From.Env, c.From.Slot)
	}
	for _, x := range s.Maps {
		told += fmt.Sprintln("map", x.Env, x.V, x.Slot, bit(x.Write))
	}
	for _, x := range s.Frames {
		told += fmt.Sprintln("frame", x.Num, x.Frame.Serial, bit(x.Frame.Dirty), x.Frame.Mark, pageText(x.Page))
	}
	for _, x := range s.Extents {
		told += fmt.Sprintln("ext", x.Num, x.Serial)
	}
	return told
}

func forestText(f api.Forest) string {
	told := ""
	for k, e := range f.Envs {
		told += fmt.Sprintln("env", k, e.Parent, e.State, e.Code, e.Bits, bit(e.Frozen), regsText(e.Regs), e.Quota.Frames, e.Quota.Envs, e.Quota.Extents)
	}
	for _, c := range f.Caps {
		told += fmt.Sprintln("cap", c.Env, c.Slot, c.Kind, c.Rights, map[bool]string{true: "in", false: "out"}[c.In], c.Obj, c.From.Env, c.From.Slot)
	}
	for _, x := range f.Maps {
		told += fmt.Sprintln("map", x.Env, x.V, x.Slot, bit(x.Write))
	}
	for class, p := range f.Pages {
		told += fmt.Sprintln("page", class, pageText(p))
	}
	for place, o := range f.Outs {
		told += fmt.Sprintln("out", place, o.Kind, o.Serial)
	}
	return told
}
