package tongue

// noLevel is looser than every operator's level.
const noLevel = 0

// operator: its level, the tightest the highest; and what makes of its sides, the left in register 4 and the right in register 5, its value in register 4.
type operator struct {
	text  string
	level int
	code  string // none, where the right side is not always done
}

var operators = [...]operator{
	{text: orElse, level: 1},
	{text: andAlso, level: 2},
	{text: "|", level: 3, code: "or r4, r5"},
	{text: "^", level: 4, code: "xor r4, r5"},
	{text: "&", level: 5, code: "and r4, r5"},
	{text: "==", level: 6, code: "eq r4, r5"},
	{text: "!=", level: 6, code: "eq r4, r5; eq r4, r7"},
	{text: "<", level: 7, code: "lt r4, r5"},
	{text: "<=", level: 7, code: "lt r5, r4; mov r4, r5; eq r4, r7"},
	{text: ">", level: 7, code: "lt r5, r4; mov r4, r5"},
	{text: ">=", level: 7, code: "lt r4, r5; eq r4, r7"},
	{text: "<<", level: 8, code: "shl r4, r5"},
	{text: ">>", level: 8, code: "shr r4, r5"},
	{text: "+", level: 9, code: "add r4, r5"},
	{text: "-", level: 9, code: "sub r4, r5"},
	{text: "*", level: 10, code: "mul r4, r5"},
	{text: "/", level: 10, code: "div r4, r5"},
	{text: "%", level: 10, code: "rem r4, r5"},
}

// The operators that may leave their right side undone.
const (
	orElse  = "||"
	andAlso = "&&"
)

// levelOf is an operator's level; noLevel for every other text.
func levelOf(text string) int {
	for _, o := range operators {
		if o.text == text {
			return o.level
		}
	}
	return noLevel
}

// operatorCode is what an operator does with registers 4 and 5.
func operatorCode(text string) string {
	for _, o := range operators {
		if o.text == text {
			return o.code
		}
	}
	return ""
}

// isSign tells whether a text may stand ahead of an operand.
func isSign(text string) bool { return signCode(text) != "" }

// signCode is what a sign does with register 4.
func signCode(text string) string {
	switch text {
	case "-":
		return "mov r5, r7; sub r5, r4; mov r4, r5"
	case "~":
		return "li r5, -1; xor r4, r5"
	case "!":
		return "eq r4, r7"
	}
	return ""
}

// applySign is the value of a sign with its operand.
func applySign(text string, v uint32) uint32 {
	switch text {
	case "-":
		return -v
	case "~":
		return ^v
	}
	return truth(v == 0)
}

// divides tells whether a right side 0 is a fault.
func divides(text string) bool { return text == "/" || text == "%" }

// apply is the value of an operator whose sides are both done, and which does not divide by 0.
func apply(text string, l, r uint32) uint32 {
	switch text {
	case orElse, andAlso: // the left side has left it to the right
		return truth(r != 0)
	case "|":
		return l | r
	case "^":
		return l ^ r
	case "&":
		return l & r
	case "==":
		return truth(l == r)
	case "!=":
		return truth(l != r)
	case "<":
		return truth(l < r)
	case "<=":
		return truth(l <= r)
	case ">":
		return truth(l > r)
	case ">=":
		return truth(l >= r)
	case "<<":
		return l << r
	case ">>":
		return l >> r
	case "+":
		return l + r
	case "-":
		return l - r
	case "*":
		return l * r
	case "/":
		return l / r
	}
	return l % r
}

func truth(so bool) uint32 {
	if so {
		return 1
	}
	return 0
}
