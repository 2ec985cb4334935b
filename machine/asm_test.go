package machine_test

import (
	"fmt"
	"strconv"
	"strings"
	"testing"

	"effectus/api"
	"effectus/code"
	"effectus/machine"
)

// names are the instructions' names, in the order of their numbers.
var names = strings.Fields("int arg free slot store pair fst snd cons head rest empty sign make patch call tail return jump unless drop handle do")

const signs = "+ - * < =="

// assemble makes a code of its shape and of lines: `op get` or `op get once`, `deep 0 1` or `shallow 0`,
// `fun 2 1: int 5, return` (what it has caught, its slots, its instructions).
func assemble(t testing.TB, shape string, lines ...string) api.Code {
	t.Helper()
	c := api.Code{Shape: shape}
	for _, line := range lines {
		head, body, _ := strings.Cut(line, ":")
		words := strings.Fields(head)
		switch words[0] {
		case "op":
			c.Ops = append(c.Ops, api.CodeOp{Name: words[1], Once: len(words) > 2})
		case "deep", "shallow":
			c.Handlers = append(c.Handlers, api.Handler{Shallow: words[0] == "shallow", Ops: numbers(t, words[1:])})
		case "fun":
			n := numbers(t, words[1:])
			c.Funs = append(c.Funs, api.CodeFun{Free: n[0], Slots: n[1], Ins: instructions(t, body)})
		default:
			t.Fatalf("no line: %s", line)
		}
	}
	return c
}

func numbers(t testing.TB, words []string) []int {
	t.Helper()
	var out []int
	for _, w := range words {
		n, err := strconv.Atoi(w)
		if err != nil {
			t.Fatal(err)
		}
		out = append(out, n)
	}
	return out
}

func instructions(t testing.TB, text string) []api.Ins {
	t.Helper()
	var out []api.Ins
	for _, one := range strings.Split(text, ",") {
		words := strings.Fields(one)
		if len(words) == 0 {
			continue
		}
		in := api.Ins{Op: index(t, names, words[0])}
		switch {
		case in.Op == api.InSign:
			in.A = index(t, strings.Fields(signs), words[1])
		case in.Op == api.InInt:
			in.N = numbers(t, words[1:])[0]
		case len(words) > 1:
			n := append(numbers(t, words[1:]), 0)
			in.A, in.B = n[0], n[1]
		}
		out = append(out, in)
	}
	return out
}

func index(t testing.TB, words []string, word string) int {
	t.Helper()
	for i, w := range words {
		if w == word {
			return i
		}
	}
	t.Fatalf("no word: %s", word)
	return 0
}

// written is a code as assemble reads it, for what a test tells.
func written(c api.Code) string {
	out := "shape " + c.Shape
	for _, op := range c.Ops {
		out += fmt.Sprintf("; op %q %v", op.Name, op.Once)
	}
	for _, h := range c.Handlers {
		out += fmt.Sprintf("; shallow %v %v", h.Shallow, h.Ops)
	}
	for _, f := range c.Funs {
		out += fmt.Sprintf("; fun %d %d:", f.Free, f.Slots)
		for _, in := range f.Ins {
			out += fmt.Sprintf(" %s %d %d,", names[in.Op], in.A+in.N, in.B)
		}
	}
	return out
}

func encode(t testing.TB, c api.Code) string {
	t.Helper()
	s, e := code.Encode(c)
	if e != api.OK {
		t.Fatalf("%s can't be written: %v", written(c), e)
	}
	return s
}

// load is a machine of a code that has to be one that can be run.
func load(t testing.TB, c api.Code, cells int) *machine.Machine {
	t.Helper()
	m, fault := machine.Load(encode(t, c), cells)
	if m == nil || fault != (api.Fault{}) {
		t.Fatalf("%s: %v", written(c), fault)
	}
	return m
}

// play plays a code, and wants Play, a machine that does all at once, and one that does one instruction after the other to come to the same as the model.
func play(t testing.TB, c api.Code, cells, fuel int) api.Outcome {
	t.Helper()
	got, fault := machine.Play(encode(t, c), cells, fuel)
	if fault != (api.Fault{}) {
		t.Fatalf("%s: %v", written(c), fault)
	}
	m := load(t, c, cells)
	m.Go(fuel)
	if whole := m.Tell(); whole != got {
		t.Fatalf("%s, %d cells: %+v, but Play says %+v", written(c), cells, whole, got)
	}
	if walked := walk(t, c, cells, min(fuel, 3000)); fuel <= 3000 && walked != got {
		t.Fatalf("%s, %d cells: %+v, but step by step %+v", written(c), cells, got, walked)
	}
	return got
}

// walk does one instruction after the other, and holds all that is told meanwhile against the model.
func walk(t testing.TB, c api.Code, cells, fuel int) api.Outcome {
	t.Helper()
	m, want := load(t, c, cells), newModel(c, cells)
	for range fuel {
		did, wanted := m.Go(1), want.step()
		if did != wanted || m.Tell() != want.outcome {
			t.Fatalf("%s, %d cells: did %d, %+v, want %d, %+v", written(c), cells, did, m.Tell(), wanted, want.outcome)
		}
		if live := m.Live(); live != want.live() {
			t.Fatalf("%s, %d cells, behind %d instructions: %d cells are reached, want %d", written(c), cells, m.Tell().Steps, live, want.live())
		}
		if did == 0 {
			break
		}
	}
	return m.Tell()
}

// plays wants a code to come to an outcome on a heap of so many cells, and to end as Memory on every smaller one.
func plays(t *testing.T, c api.Code, cells int, want api.Outcome) {
	t.Helper()
	for extra := range 3 {
		if got := play(t, c, cells+extra*extra, 3000); got != want {
			t.Errorf("%s, %d cells: %+v, want %+v", written(c), cells+extra*extra, got, want)
		}
	}
	for less := range cells {
		if got := play(t, c, less, 3000); got.Kind != api.Memory || got.Steps >= want.Steps || got.Value+got.Op != "" {
			t.Errorf("%s, %d cells: %+v, want Memory", written(c), less, got)
		}
	}
}

func done(value string, steps int) api.Outcome {
	return api.Outcome{Kind: api.Done, Value: value, Steps: steps}
}

func spent(op string, steps int) api.Outcome {
	return api.Outcome{Kind: api.Spent, Op: op, Steps: steps}
}

func wrong(steps int) api.Outcome { return api.Outcome{Kind: api.Wrong, Steps: steps} }

func memory(steps int) api.Outcome { return api.Outcome{Kind: api.Memory, Steps: steps} }
