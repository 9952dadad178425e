package amber

import (
	"strings"

	"amber/api"
)

// command: what a line asks for. Each kind of line is a type of its own; its fields are the line's arguments and, once it is done, what came of it.
type command interface {
	do(w *World) api.Errno
}

// parse reads a line; false, if it is no command.
func parse(line string) (command, bool) {
	if len(line) > maxLine || strings.Contains(line, "\n") {
		return nil, false
	}
	line, _, _ = strings.Cut(line, "#")
	a := &arguments{rest: line}
	c := read(a.token(), a)
	return c, c != nil && !a.wrong && a.token() == ""
}

// read takes the arguments of the command with this name; nil, if there is none.
func read(name string, a *arguments) command {
	if name == "" {
		return &emptyLine{}
	}
	for _, some := range []func(string, *arguments) command{
		kernelCommand, programCommand, diskCommand, storeCommand, runCommand, ferryCommand, planCommand, tripCommand,
	} {
		if c := some(name, a); c != nil {
			return c
		}
	}
	return nil
}

// emptyLine does nothing and tells nothing.
type emptyLine struct{}

func (c *emptyLine) do(w *World) api.Errno { return api.OK }
