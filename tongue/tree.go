package tongue

// program: a source that was read.
type program struct {
	variables  []variable
	statements []statement
	code       string // as isa.Assemble takes it
}

// variable: a declared name.
type variable struct {
	name  string
	array bool // declared with brackets, though it be of one word
	size  int  // in words
	at    int  // the address of the first of them
}

// What an expression is.
const (
	numberExpr = iota
	askExpr
	nameExpr
	elementExpr
	signExpr
	operatorExpr
)

// expr: an expression. Round brackets leave no trace in it but their depth: its shape says what they said.
type expr struct {
	kind        int
	value       uint32   // a number's
	variable    variable // a name's, an element's
	operator    string   // a sign's too
	left, right *expr    // an operator's sides; an element's index and a sign's operand stand on the left
	depth       int
}

// What stands behind the block of a choice.
const (
	noElse = iota
	elseBlock
	elseChoice
)

// assigning is the word of the statements that begin with a name.
const assigning = "="

// statement: word is what it begins with, a word of the language or a bracket.
type statement struct {
	word      string
	variable  variable // an assignment's
	index     *expr    // of the element that is assigned; nil, where it is no element
	value     *expr
	body      []statement
	otherwise int
	rest      []statement // a block's statements, or one choice
}
