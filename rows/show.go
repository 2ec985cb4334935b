package rows

import (
	"strconv"
	"strings"

	"effectus/api"
)

// write puts brackets around a type whose level is below the one that is asked for.
func write(text *strings.Builder, t api.Type, asked int) {
	if levelOf(t.Kind) >= asked {
		writeBare(text, t)
		return
	}
	text.WriteString("(")
	writeBare(text, t)
	text.WriteString(")")
}

func levelOf(kind int) int {
	switch kind {
	case api.TyFn:
		return 0
	case api.TyPair:
		return 1
	case api.TyList:
		return 2
	}
	return 3
}

func writeBare(text *strings.Builder, t api.Type) {
	switch t.Kind {
	case api.TyVar:
		text.WriteString(nameOf(t.N))
	case api.TyInt:
		text.WriteString("int")
	case api.TyBool:
		text.WriteString("bool")
	case api.TyUnit:
		text.WriteString("unit")
	case api.TyList:
		write(text, t.Args[0], 2)
		text.WriteString(" list")
	case api.TyPair:
		write(text, t.Args[0], 2)
		text.WriteString(" * ")
		write(text, t.Args[1], 1)
	case api.TyFn:
		write(text, t.Args[0], 1)
		text.WriteString(arrowOf(t))
		write(text, t.Args[1], 0)
	}
}

func nameOf(variable int) string {
	if variable <= 26 {
		return string(rune('a' + variable - 1))
	}
	return "a" + strconv.Itoa(variable)
}

func arrowOf(t api.Type) string {
	row := strings.Join(t.Ops, ", ")
	if t.Row > 0 {
		if row != "" {
			row += " "
		}
		row += "| r" + strconv.Itoa(t.Row)
	}
	if row == "" {
		return " -> "
	}
	return " -{" + row + "}-> "
}
