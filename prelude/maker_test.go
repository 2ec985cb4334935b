package prelude_test

import (
	"fmt"
	"math/rand"
	"slices"
)

// doer does an operation with a number (of fork: with a thread), and answers what it is gone on with; true is 1.
type doer func(op string, n int, thread func(doer)) int

// made is an expression that is a number: its text, and what it comes to where the names x0, x1, .. stand for numbers.
type made struct {
	text string
	run  func(names []int, do doer) int
}

// maker makes expressions that do the operations of one text of the prelude.
type maker struct {
	*rand.Rand
	name string // the text's
}

func newMaker(name string, seed int64) maker { return maker{rand.New(rand.NewSource(seed)), name} }

// number makes an expression in brackets, or an atom, where so many names are in sight.
func (m maker) number(depth, names int) made {
	if depth < 1 {
		return m.least(names)
	}
	switch m.Intn(8) {
	case 0:
		return m.least(names)
	case 1, 2, 3, 4:
		return m.done(depth-1, names)
	case 5:
		return m.bound(depth-1, names)
	case 6:
		return m.loop(depth-1, names)
	}
	return m.plain(depth-1, names)
}

func (m maker) least(names int) made {
	if i := m.Intn(names + 1); i < names {
		return made{fmt.Sprint("x", i), func(names []int, do doer) int { return names[i] }}
	}
	n := m.Intn(10)
	return made{fmt.Sprint(n), func([]int, doer) int { return n }}
}

// plain does nothing itself.
func (m maker) plain(depth, names int) made {
	a, b, c := m.number(depth, names), m.number(depth, names), m.number(depth, names)
	switch m.Intn(6) {
	case 0:
		return made{"(" + a.text + " + " + b.text + ")", func(names []int, do doer) int { return a.run(names, do) + b.run(names, do) }}
	case 1:
		return made{"(" + a.text + " - " + b.text + ")", func(names []int, do doer) int { return a.run(names, do) - b.run(names, do) }}
	case 2:
		return made{"(" + a.text + "; " + b.text + ")", func(names []int, do doer) int { a.run(names, do); return b.run(names, do) }}
	case 3:
		return made{"(fst (" + a.text + ", " + b.text + "))", func(names []int, do doer) int { n := a.run(names, do); b.run(names, do); return n }}
	case 4:
		return m.handled(a)
	}
	return made{"(if " + a.text + " < 5 then " + b.text + " else " + c.text + ")", func(names []int, do doer) int {
		if a.run(names, do) < 5 {
			return b.run(names, do)
		}
		return c.run(names, do)
	}}
}

// handled answers one of the operations itself.
func (m maker) handled(a made) made {
	n := m.Intn(2)
	clause := map[string][2]string{
		"state": {"get", fmt.Sprintf("get u k => k %d", n)}, "choose": {"flip", fmt.Sprintf("flip u k => k (%d == 1)", n)}, "gen": {"emit", "emit v k => k ()"}, "sched": {"say", "say v k => k ()"}, "catch": {"fail", fmt.Sprintf("fail v k => k %d", n)},
	}[m.name]
	return made{"(handle " + a.text + " with { return x => x + 1 | " + clause[1] + " })", func(names []int, do doer) int {
		return 1 + a.run(names, func(op string, v int, thread func(doer)) int {
			if op == clause[0] {
				return n
			}
			return do(op, v, thread)
		})
	}}
}

// bound makes a name stand for a number.
func (m maker) bound(depth, names int) made {
	a, b := m.number(depth, names), m.number(depth, names+1)
	x := fmt.Sprint("x", names)
	text := []string{
		"(let " + x + " = " + a.text + " in " + b.text + ")", "((fn " + x + " => " + b.text + ") " + a.text + ")", "(case [" + a.text + "] of [] => 0 | " + x + " :: l => " + b.text + " end)",
		"(let f " + x + " = " + b.text + " in f " + a.text + ")",
	}[m.Intn(4)]
	return made{text, func(names []int, do doer) int { return b.run(slices.Concat(names, []int{a.run(names, do)}), do) }}
}

// loop goes round some times, as its own last call or within a sum.
func (m maker) loop(depth, names int) made {
	a := m.number(depth, names+1)
	x, rounds, sum := fmt.Sprint("x", names), 1+m.Intn(6), m.Intn(2)
	again := []string{"(" + a.text + "; f (" + x + " - 1))", a.text + " + f (" + x + " - 1)"}[sum]
	return made{fmt.Sprintf("(let rec f %s = if %s < 1 then 0 else %s in f %d)", x, x, again, rounds), func(names []int, do doer) int {
		all := 0
		for i := range rounds {
			all += sum * a.run(slices.Concat(names, []int{rounds - i}), do)
		}
		return all
	}}
}

// done does an operation.
func (m maker) done(depth, names int) made {
	a, b := m.number(depth, names), m.number(depth, names)
	switch m.name {
	case "choose":
		return flipped(a, b)
	case "gen":
		return told("emit", a, b)
	case "catch":
		return made{"(do fail " + a.text + ")", func(names []int, do doer) int { return do("fail", a.run(names, do), nil) }}
	case "sched":
		return []made{told("say", a, b), yielded(b), forked(a, b)}[m.Intn(3)]
	}
	return []made{told("put", a, b), {"(do get ())", func(names []int, do doer) int { return do("get", 0, nil) }}}[m.Intn(2)]
}

// told does an operation with a number, and goes on.
func told(op string, a, b made) made {
	return made{"(do " + op + " " + a.text + "; " + b.text + ")", func(names []int, do doer) int {
		do(op, a.run(names, do), nil)
		return b.run(names, do)
	}}
}

func yielded(b made) made {
	return made{"(do yield (); " + b.text + ")", func(names []int, do doer) int {
		do("yield", 0, nil)
		return b.run(names, do)
	}}
}

func forked(a, b made) made {
	return made{"(do fork (fn u => (" + a.text + "; ())); " + b.text + ")", func(names []int, do doer) int {
		do("fork", 0, func(do doer) { a.run(names, do) })
		return b.run(names, do)
	}}
}

func flipped(a, b made) made {
	return made{"(if do flip () then " + a.text + " else " + b.text + ")", func(names []int, do doer) int {
		if do("flip", 0, nil) == 1 {
			return a.run(names, do)
		}
		return b.run(names, do)
	}}
}
