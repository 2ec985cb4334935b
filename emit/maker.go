package emit

import "effectus/api"

// maker makes the code of a program.
type maker struct {
	code    api.Code
	deep    map[int]struct{} // the variables of resumptions that have their handler with them
	helpers [helperKinds]int // the numbers of functions that no term stands for, 0 while they are not asked for
}

func newMaker() *maker { return &maker{deep: map[int]struct{}{}} }

// sight is of each variable that a function knows what puts it.
type sight map[int][]api.Ins

// body is a function that is being made.
type body struct {
	*maker
	sight  sight
	caught []int // the variables that the function has caught, in the order of its fields
	slots  int   // how many a call has
	taken  int   // how many of them have a variable where the code goes on
	begun  int   // how many terms have begun behind the last instruction
	ins    []api.Ins
}

// function makes a function that knows some variables by its argument. It answers the function's number, and which variables it has caught.
func (m *maker) function(known sight, fill func(*body)) (int, []int) {
	number := len(m.code.Funs)
	m.code.Funs = append(m.code.Funs, api.CodeFun{}) // the number is taken ahead of those of the functions within
	b := &body{maker: m, sight: known}
	fill(b)
	m.code.Funs[number] = api.CodeFun{Free: len(b.caught), Slots: b.slots, Ins: b.ins}
	return number, b.caught
}

func (b *body) add(ins ...api.Ins) {
	b.ins = append(b.ins, ins...)
	b.begun = 0
}

// put adds an instruction, and answers its place.
func (b *body) put(op, a int) int {
	b.add(api.Ins{Op: op, A: a})
	return len(b.ins) - 1
}

func (b *body) putInt(n int) { b.add(api.Ins{Op: api.InInt, N: n}) }

// mostBegun is how many terms begin between two instructions, at most.
const mostBegun = 8

// begin is where a term begins. There it takes its step, while its own instruction may come far behind, or never, if what its kids do is not gone on with.
// So that the code takes an eighth of the text's steps at least, it has instructions that do nothing where many terms begin at one place.
func (b *body) begin() {
	if b.begun == mostBegun {
		b.put(api.InJump, len(b.ins)+1)
	}
	b.begun++
}

// land lets a jump go to where the code goes on.
func (b *body) land(jump int) { b.ins[jump].A = len(b.ins) }

// load puts what a variable stands for. What is not the function's own it catches, the first time that it is asked for.
func (b *body) load(variable int) {
	puts, known := b.sight[variable]
	if !known {
		puts = []api.Ins{{Op: api.InFree, A: len(b.caught)}}
		b.sight[variable] = puts
		b.caught = append(b.caught, variable)
	}
	b.add(puts...)
}

// closure puts a function with what it catches; it answers which variables that is.
func (b *body) closure(known sight, fill func(*body)) []int {
	number, caught := b.function(known, fill)
	for _, variable := range caught {
		b.load(variable)
	}
	b.put(api.InMake, number)
	return caught
}

// slot takes a slot for a variable.
func (b *body) slot(variable int) int {
	at := b.taken
	b.taken++
	b.slots = max(b.slots, b.taken)
	b.sight[variable] = []api.Ins{{Op: api.InSlot, A: at}}
	return at
}

// parameter is what a function knows whose argument is what a variable stands for.
func parameter(variable int) sight { return sight{variable: {{Op: api.InArg}}} }
