package emit

import "strings"

// shapeOf is the shape of what has a type that is written as chapter 3 says.
func shapeOf(written string) string {
	first, second, isPair := cutPair(written)
	element, isList := strings.CutSuffix(written, " list")
	switch {
	case outside(written, '-') >= 0:
		return "f"
	case isPair:
		return "p" + shapeOf(first) + shapeOf(second)
	case isList:
		return "l" + shapeOf(element)
	case strings.HasPrefix(written, "("):
		return shapeOf(written[1 : len(written)-1])
	}
	return shapeOfName(written)
}

func shapeOfName(name string) string {
	switch name {
	case "int":
		return "i"
	case "bool":
		return "b"
	case "unit":
		return "u"
	}
	return "v"
}

// cutPair cuts a pair's type in two; the first star is the pair's own, for pairs group to the right.
func cutPair(written string) (first, second string, ok bool) {
	at := outside(written, '*')
	if at < 0 {
		return "", "", false
	}
	return written[:at-1], written[at+2:], true // there are blanks around it
}

// outside is the place of the first such sign that stands in no brackets; below 0, if there is none.
func outside(written string, sign byte) int {
	depth := 0
	for at := range len(written) {
		switch b := written[at]; {
		case b == '(':
			depth++
		case b == ')':
			depth--
		case b == sign && depth == 0:
			return at
		}
	}
	return -1
}
