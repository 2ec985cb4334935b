package core_test

import (
	"slices"
	"strconv"
	"strings"

	"effectus/api"
)

// A player evaluates a core term, by P6.2: as chapter 5 says of the expression that it stands for, but each term takes a step.
// What waits is a row of frames, the innermost last; frames are never changed.
type player struct {
	once        []bool // of each operation
	fuel, steps int
	frames      []frame
	over        bool
	outcome     api.Outcome
}

// frame is a term that waits for a kid's value; a THandle's is in sight of what is done in its first kid.
type frame struct {
	of     api.Term
	known  *known
	values []any // of the kids that were evaluated
}

// known is what the variables in sight stand for.
type known struct {
	variable int
	value    any
	rest     *known
}

type (
	playUnit    struct{}
	playPair    struct{ first, second any }
	playList    struct{ cell *playPair } // no cell: it is empty
	playClosure struct {
		fn    api.Term
		known *known
		own   int // above 0: the variable by which it knows itself
	}
	playResumption struct {
		op     int
		name   string
		frames []frame
		used   *int
	}
)

func (k *known) with(variable int, value any) *known {
	return &known{variable, value, k}
}

func (k *known) find(variable int) (any, bool) {
	for ; k != nil; k = k.rest {
		if k.variable == variable {
			return k.value, true
		}
	}
	return nil, false
}

// play answers how a term's run ends.
func play(t api.Term, once []bool, fuel int) api.Outcome {
	p := &player{once: once, fuel: fuel}
	value, known, next := any(nil), (*known)(nil), &t
	for !p.over {
		switch {
		case next != nil:
			value, known, next = p.begin(*next, known)
		case len(p.frames) == 0:
			var out strings.Builder
			showPlayed(&out, value)
			p.end(api.Done, "", cut(out.String()))
		default:
			last := p.frames[len(p.frames)-1]
			p.frames = p.frames[:len(p.frames)-1]
			value, known, next = p.goOn(last, value)
		}
	}
	p.outcome.Steps = p.steps
	return p.outcome
}

func (p *player) end(kind int, op, value string) {
	p.over = true
	p.outcome = api.Outcome{Kind: kind, Op: op, Value: value}
}

func (p *player) wrong() (any, *known, *api.Term) {
	p.end(api.Wrong, "", "")
	return nil, nil, nil
}

// begin answers the value of a term, or what is evaluated next.
func (p *player) begin(t api.Term, k *known) (any, *known, *api.Term) {
	if p.steps == p.fuel {
		p.end(api.Going, "", "")
		return nil, nil, nil
	}
	p.steps++
	switch t.Op {
	case api.TInt:
		return t.N, nil, nil
	case api.TBool:
		return t.N == 1, nil, nil
	case api.TUnit:
		return playUnit{}, nil, nil
	case api.TNil:
		return playList{}, nil, nil
	case api.TFn:
		return playClosure{fn: t, known: k}, nil, nil
	case api.TVar:
		value, found := k.find(t.N)
		if !found {
			return p.wrong()
		}
		return value, nil, nil
	}
	p.frames = append(p.frames, frame{of: t, known: k})
	return nil, k, &t.Kids[0]
}

// goOn goes on with a frame whose kid has come to a value.
func (p *player) goOn(f frame, value any) (any, *known, *api.Term) {
	t, values := f.of, append(slices.Clone(f.values), value)
	switch t.Op {
	case api.TApp, api.TPair, api.TCons, api.TOp:
		if len(values) == 1 {
			p.frames = append(p.frames, frame{t, f.known, values})
			return nil, f.known, &t.Kids[1]
		}
		return p.both(t, values[0], values[1])
	case api.TLet:
		return nil, f.known.with(t.N, value), &t.Kids[1]
	case api.TRec:
		closure := value.(playClosure)
		closure.own = t.N
		return nil, f.known.with(t.N, closure), &t.Kids[1]
	case api.TIf:
		if value.(bool) {
			return nil, f.known, &t.Kids[1]
		}
		return nil, f.known, &t.Kids[2]
	case api.TFst:
		return value.(playPair).first, nil, nil
	case api.TSnd:
		return value.(playPair).second, nil, nil
	case api.TCase:
		cell := value.(playList).cell
		if cell == nil {
			return nil, f.known, &t.Kids[1]
		}
		return nil, f.known.with(t.Ns[0], cell.first).with(t.Ns[1], cell.second), &t.Kids[2]
	case api.TDo:
		return p.do(t, value)
	case api.THandle:
		return nil, f.known.with(t.N, value), &t.Kids[1]
	}
	return p.wrong()
}

// both does what a term is there for that has evaluated two kids.
func (p *player) both(t api.Term, a, b any) (any, *known, *api.Term) {
	switch t.Op {
	case api.TPair:
		return playPair{a, b}, nil, nil
	case api.TCons:
		return playList{&playPair{a, b.(playList)}}, nil, nil
	case api.TApp:
		return p.apply(a, b)
	}
	x, y := a.(int), b.(int)
	switch t.S {
	case "+":
		return x + y, nil, nil
	case "-":
		return x - y, nil, nil
	case "*":
		return x * y, nil, nil
	case "<":
		return x < y, nil, nil
	case "==":
		return x == y, nil, nil
	}
	return p.wrong()
}

func (p *player) apply(f, argument any) (any, *known, *api.Term) {
	switch f := f.(type) {
	case playClosure:
		k := f.known
		if f.own > 0 {
			k = k.with(f.own, f)
		}
		return nil, k.with(f.fn.N, argument), &f.fn.Kids[0]
	case playResumption:
		if *f.used++; *f.used > 1 && p.once[f.op] {
			p.end(api.Spent, f.name, "")
			return nil, nil, nil
		}
		p.frames = append(p.frames, f.frames...)
		return argument, nil, nil
	}
	return p.wrong()
}

// do lets the nearest THandle that has the operation take over.
func (p *player) do(t api.Term, value any) (any, *known, *api.Term) {
	for i, f := range slices.Backward(p.frames) {
		if f.of.Op != api.THandle {
			continue
		}
		for clause, kid := range f.of.Kids[2:] {
			numbers := f.of.Ns[3*clause:]
			if numbers[0] == t.N {
				k := playResumption{op: t.N, name: t.S, frames: slices.Clone(p.frames[i+f.of.Of:]), used: new(int)}
				p.frames = slices.Clone(p.frames[:i])
				return nil, f.known.with(numbers[1], value).with(numbers[2], k), &kid
			}
		}
	}
	return p.wrong()
}

func cut(text string) string {
	if len(text) > api.MaxShown {
		return text[:api.MaxShown] + "..."
	}
	return text
}

// showPlayed writes more than may be shown, but of a value without measure not all.
func showPlayed(out *strings.Builder, value any) {
	if out.Len() > api.MaxShown {
		return
	}
	switch v := value.(type) {
	case int:
		out.WriteString(strconv.Itoa(v))
	case bool:
		out.WriteString(strconv.FormatBool(v))
	case playUnit:
		out.WriteString("()")
	case playPair:
		out.WriteString("(")
		showPlayed(out, v.first)
		out.WriteString(", ")
		showPlayed(out, v.second)
		out.WriteString(")")
	case playList:
		between := "["
		for cell := v.cell; cell != nil; cell = cell.second.(playList).cell {
			out.WriteString(between)
			showPlayed(out, cell.first)
			between = ", "
		}
		out.WriteString(strings.TrimSuffix(between, ", ") + "]")
	default:
		out.WriteString("fn")
	}
}
