package amber_test

import (
	"regexp"
	"strconv"
	"strings"
	"testing"

	"amber/amber"
	"amber/api"
)

// The forms of lines, told once more by patterns.

// Pieces of a form: <n> a number, <w> a word, <k> a name, <s> picks and answers, <?> answers, <b> bytes, <t> a text, <a> a list of words.
var forms = map[string]string{
	"call": "<n> <n>(?: <n>){0,6}(?: <b>)?", "prog": "<k><t>", "load": "<n> <n> <k>", "run": "<n> <n><s>", "open": "<n> <n>", "close": "",
	"save": "<n> (?:full|next)", "wake": "", "fold": "", "where": "", "tree": "<n> <n>", "arm": "<n>", "crash": "(?:-|[01]{1,512})",
	"edit": "<n> <n> <b>", "raw": "<n>", "disk": "", "state": "", "audit": "", "swap": "", "record": "<n> <n><s>", "replay": "<n> <n>", "forget": "",
	"send": "", "take": "", "tick": "", "pass": "<n>", "lose": "<n>", "copy": "<n>", "spoil": "<n> <n> <n>", "land": "",
	"speak": "<k><t>", "mean": "<n> <a><t>", "plan": "<n>", "weigh": "<n> <n> <n> <n>", "drive": "<n> <n> <n> <n><?>",
	"trip": "<n>", "go": "<s>", "back": "<n>", "forth": "<n>", "find": "<n> <n> <n> <n> <n>",
}

// patterns: each form as one of what a line is without its comment.
var patterns = func() map[string]*regexp.Regexp {
	all := map[string]*regexp.Regexp{}
	pieces := strings.NewReplacer(
		" ", `[ \t]+`, "<n>", `-?[0-9]{1,10}`, "<k>", `[a-z]{1,8}`, "<b>", `:(?:[0-9a-f]{2}){0,128}`, "<t>", `(?:[ \t].*)?`,
		"<?>", `(?:[ \t]+\?(?P<words>(?:[ \t]+-?[0-9]{1,10})*))?`,
		"<s>", `(?:[ \t]+-?[0-9]{1,10}:-?[0-9]{1,10})*(?:[ \t]+\?(?P<words>(?:[ \t]+-?[0-9]{1,10})*))?`,
		"<a>", `(?:-|(?P<list>-?[0-9]{1,10}(?:,-?[0-9]{1,10}){0,63}))`,
	)
	for name, form := range forms {
		if form != "" && !strings.HasPrefix(form, "<s>") {
			form = " " + form
		}
		all[name] = regexp.MustCompile(`(?s)^[ \t]*` + name + pieces.Replace(form) + `[ \t]*$`)
	}
	return all
}()

// isCommand tells of one line, without any newline, whether it is a command.
func isCommand(line string) bool {
	if len(line) > 4096 {
		return false
	}
	line, _, _ = strings.Cut(line, "#")
	if strings.Trim(line, " \t") == "" {
		return true
	}
	for _, p := range patterns {
		found := p.FindStringSubmatch(line)
		if found == nil {
			continue
		}
		for i, name := range p.SubexpNames() {
			if name == "words" || name == "list" {
				return areWords(found[i])
			}
		}
		return true
	}
	return false
}

func areWords(text string) bool {
	for _, t := range strings.FieldsFunc(text, func(r rune) bool { return strings.ContainsRune(" \t,", r) }) {
		if n, err := strconv.Atoi(t); err != nil || n < 0 || n > 4294967295 {
			return false
		}
	}
	return true
}

// holdForm holds Check and Do against the patterns.
func holdForm(t *testing.T, line string) {
	t.Helper()
	line1, want := 0, api.OK
	if !isCommand(line) {
		line1, want = 1, api.ErrScript
	}
	if n, code := amber.Check(line); n != line1 || code != want {
		t.Errorf("P26.1: Check(%.300q): %d, %d, want %d, %d", line, n, code, line1, want)
	}
	text, code := amber.New().Do(line)
	if code != want || code != api.OK && text != "" {
		t.Errorf("P26.1: Do(%.300q): %.100q, %d, want %d", line, text, code, want)
	}
	if played, code := amber.Play(line); code != want || played != text {
		t.Errorf("P26.2: Play(%.300q): %.100q, %d; Do tells %.100q", line, played, code, text)
	}
}

// TestNumbersOfArguments: each command with all numbers of plain arguments.
func TestNumbersOfArguments(t *testing.T) {
	for name := range forms {
		for _, arg := range []string{"1", "-1", "abc", ":00", "1:1", "full", "next", "?", "-", "01", "1,2"} {
			for n := range 12 {
				holdForm(t, name+strings.Repeat(" "+arg, n))
			}
		}
	}
}

// TestFormsAtEdges: what a line of each form looks like at the edges that the document names, and beside them.
func TestFormsAtEdges(t *testing.T) {
	n := []string{"0", "7", "-1", "-0", "007", "0000000000", "9999999999", "-9999999999", "00000000001", "10000000000", "-10000000000", "+1", "--1", "-", "", "1-", "0x1", "1.0", "1e3", "٣", "\xff", "1\xff", "½", "1_0", " ", "\t"}
	w := []string{"0", "-0", "4294967295", "4294967296", "-1", "0004294967", "00000000000", "", "x", "1:1", "?"}
	names := []string{"a", "z", "abcdefgh", "abcdefghi", "A", "a1", "a-", "é", "`", "{", "a\x00", ""}
	data := []string{":", ":00", ":0", ":000", ":ff", ":fF", ":FF", ":0g", ":g0", "00", "::", ":0:", ":-0", ":é", ":" + strings.Repeat("0f", 128), ":" + strings.Repeat("0f", 128) + "0", ":" + strings.Repeat("0f", 129)}
	bits := []string{"-", "0", "1", "0101", "2", "-1", "-0", "--", "01x", "", strings.Repeat("1", 512), strings.Repeat("0", 513), "0/", "1,0"}
	picks := []string{"0:0", "-1:-1", "007:9999999999", "1:", ":1", ":", "1", "1:1:1", "1::1", "1:-", "1 :1", "1: 1", "a:1", "1:a", "10000000000:1", "1:10000000000", "-0:-0"}
	lists := []string{"-", "1", "1,2", "1,,2", ",1", "1,", "1,2,", ",", "-0,0", "-1", "1,-1", "4294967295,0", "4294967296", "0,4294967296", "1;2", "--", "-,1", strings.Repeat("1,", 63) + "1", strings.Repeat("1,", 64) + "1", "1, 2", "?"}
	for form, pieces := range map[string][]string{
		"arm @": n, "tree @ 1": n, "tree 1 @": n, "call @ 1": n, "call 1 @": append(n, data...), "call 1 2 @": n, "call 1 2 3 4 5 6 7 @": n, "load 1 @ a": n, "spoil 1 1 @": n, "find 1 2 3 4 @": n, "mean @ - emit 1;": n, "weigh @ 1 1 1": n, "drive 1 1 1 @": n, "back @": n, "raw @": n, "save @ full": n, "edit @ 1 :": n,
		"run 1 1 ? @": w, "run 1 1 1:1 ? 1 @": w, "drive 1 1 1 1 ? @": w, "go ? @": w, "record 0 0 0:0 ? @ 1": w, "go 1:1 ? 1 2 3 @": w, "mean 1 @": w,
		"prog @": names, "prog @ nop": names, "speak @": names, "speak @ emit 1;": names, "load 1 1 @": names,
		"call 1 2 @ ": data, "call 1 2 3 4 5 6 7 8 @": data, "call 1 2 @ 1": data, "call @": data, "edit 1 2 @": data, "edit 1 @": data, "edit 1 2 @ @": data, "call 1 2 @ @": data, "raw 1 @": data,
		"crash @": bits, "crash @ @": bits, "crash 1 @": bits,
		"run 1 2 @": picks, "run 1 @": picks, "go @": picks, "go @ 1:1": picks, "record 1 2 3:4 @": picks, "record 1 2 3:4 ? @": picks, "replay 1 2 @": picks, "drive 1 2 3 4 @": picks,
		"mean 1 @ ": lists, "mean 1 @ emit 1;": lists, "mean @": lists,
		"save 1 @": {"full", "next", "Full", "half", "fullnext", "full next", "0", ""}, " run 1 2 @": {"?", "??", "? ?", "?1", "? 1 2 3", "1:1?", "1:1 ?", "? 1:1"},
		"@": {"disk", "DISK", "Disk", "disk\r", "disk\v", "disk\f", "\u00a0disk", "disk\u00a0", "\u2003disk", "dis", "diskk", "disk disk", "disk 1", " disk", "disk ", "\tdisk\t", "#disk", "disk#", "disk#x", "d#isk", "", " ", "\t", " \t #", "#", "##", "\x00", "\xff", "disk\x00", "call", "rung 1 1", "- 1", "1", ":00", "go", "go#", "prog", "prog#a", "prog a#b", "speak a#", "mean 1 -#", "mean 1#-", "prog\ta\tnop\t", "call\t0\t50"},
	} {
		for _, piece := range pieces {
			holdForm(t, strings.ReplaceAll(form, "@", piece))
		}
	}
}

const formLines = 5000

// TestFormsByDice: lines of a form, changed in some places.
func TestFormsByDice(t *testing.T) {
	d := dice(1)
	taken := 0
	for range formLines {
		line := d.formed()
		for d.one(2) {
			line = d.changed(line)
		}
		if isCommand(line) {
			taken++
		}
		holdForm(t, line)
	}
	if taken < formLines/4 || taken > formLines*9/10 {
		t.Errorf("%d of %d lines are commands", taken, formLines)
	}
}

// formed makes a line of some command's form.
func (d *dice) formed() string {
	name := d.text(strings.Fields("call prog load run open close save wake fold where tree arm crash edit raw disk state audit swap record replay forget send take tick pass lose copy spoil land speak mean plan weigh drive trip go back forth find")...)
	form := strings.NewReplacer("(?: <n>){0,6}", strings.Repeat(" <n>", d.below(7)), "(?: <b>)?", d.text("", " <b>"), "(?:full|next)", d.text("full", "next"), "(?:-|[01]{1,512})", d.text("-", "0", "101")).Replace(forms[name])
	line := name
	if form != "" {
		line += " "
	}
	for form != "" {
		piece, rest, found := strings.Cut(form, "<")
		line += piece
		if !found {
			break
		}
		kind, behind, _ := strings.Cut(rest, ">")
		line += d.piece(kind)
		form = behind
	}
	return line + d.text("", "", " ", "\t", " # x")
}

func (d *dice) piece(kind string) string {
	number := func() string { return strconv.Itoa(d.of(0, 0, 1, 2, -1, 31, 1000, d.below(5000), -d.below(100))) }
	several := func(sep string, one func() string) string {
		var l []string
		for range d.below(4) {
			l = append(l, one())
		}
		return strings.Join(l, sep)
	}
	word := func() string { return strconv.Itoa(d.of(0, 1, 7, 4294967295, d.below(99))) }
	switch kind {
	case "n":
		return number()
	case "k":
		return d.text("a", "b", "abc", "abcdefgh")
	case "b":
		return ":" + d.text("", "00", "0102", "abcdef")
	case "t":
		return d.text("", " nop", " emit 1;", "  x | y ", "\tli r1, 7|sys 14")
	case "a":
		return d.text("-", word(), word()+","+word())
	case "?":
		return d.text("", " ?", " ? "+several(" ", word))
	}
	return " " + several(" ", func() string { return number() + ":" + number() }) + d.text("", " ?", " ? "+several(" ", word))
}

// changed makes a small change to a line.
func (d *dice) changed(line string) string {
	at := d.below(len(line) + 1)
	switch d.below(5) {
	case 0:
		if at < len(line) {
			return line[:at] + line[at+1:]
		}
	case 1:
		return line[:at] + d.text("0", "1", "9", "-", ":", "?", ",", " ", "  ", "\t", "a", "f", "#", "|", "\xc3", "é", "\x00", "\u00a0", "\r") + line[at:]
	case 2:
		return line + d.text(" ", " 1", " 1:1", " ?", " :00", " a", " full", " -")
	case 3:
		return line[:at]
	case 4:
		l := strings.Split(line, " ")
		i, j := d.below(len(l)), d.below(len(l))
		l[i], l[j] = l[j], l[i]
		return strings.Join(l, " ")
	}
	return line
}

// TestLimits: of scripts and lines.
func TestLimits(t *testing.T) {
	long := "#" + strings.Repeat("x", 4095)
	block := strings.Repeat(long+"\n", 15)
	for _, c := range []struct {
		script string
		line   int
		code   api.Errno
	}{
		{long, 0, api.OK}, {long + "\n", 0, api.OK}, {long + "x", 1, api.ErrScript}, {"disk\n" + long + "x\nfoo", 2, api.ErrScript}, {"disk\n\nfoo\n" + long + "x", 3, api.ErrScript},
		{strings.Repeat(" ", 4096), 0, api.OK}, {strings.Repeat(" ", 4097), 1, api.ErrScript}, {"prog a " + strings.Repeat(";", 4089), 0, api.OK}, {"prog a " + strings.Repeat(";", 4090), 1, api.ErrScript},
		{strings.Repeat("\n", 512), 0, api.OK}, {strings.Repeat("\n", 511) + "disk", 0, api.OK}, {strings.Repeat("\n", 512) + "disk", 0, api.ErrScript}, {strings.Repeat("\n", 513), 0, api.ErrScript}, {"foo" + strings.Repeat("\n", 513), 0, api.ErrScript}, {strings.Repeat("disk\n", 511) + "foo\n", 512, api.ErrScript}, {strings.Repeat("\n", 512) + " ", 0, api.ErrScript},
		{block + long[:4081], 0, api.OK}, {block + long[:4080] + "\n", 0, api.OK}, {block + long[:4082], 16, 0}, {block + "foo" + strings.Repeat(" ", 4078), 16, api.ErrScript}, {"foo\n" + block + long[:4082], 0, api.ErrScript},
	} {
		if len(c.script) > 65536 {
			c.line, c.code = 0, api.ErrScript
		}
		if line, code := amber.Check(c.script); line != c.line || code != c.code {
			t.Errorf("P26.1: Check of %d bytes, %.30q ..: %d, %d, want %d, %d", len(c.script), c.script, line, code, c.line, c.code)
		}
		if text, code := amber.Play(c.script); code != c.code || code != api.OK && text != "" {
			t.Errorf("P26.2: Play of %d bytes, %.30q ..: %.30q, %d, want %d", len(c.script), c.script, text, code, c.code)
		}
	}
	for _, line := range []string{"disk\n", "\ndisk", "disk\ndisk", "disk # x\n", "\n", "#\n", "prog a nop\nnop", long + "x"} {
		if text, code := amber.New().Do(line); text != "" || code != api.ErrScript {
			t.Errorf("P26.1: Do(%.30q): %q, %d, want an ErrScript", line, text, code)
		}
	}
}
