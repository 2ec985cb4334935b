package code_test

import (
	"testing"

	"effectus/api"
)

// filled is instructions ahead of which there are so many values.
func filled(values int, ins ...api.Ins) []api.Ins {
	return append(make([]api.Ins, values), ins...)
}

// emptied is instructions that return, if there are so many values ahead of them.
func emptied(values int) []api.Ins {
	if values == 0 {
		return just(api.InInt, api.InReturn)
	}
	var out []api.Ins
	for range values - 1 {
		out = append(out, is(api.InDrop, 0))
	}
	return append(out, is(api.InReturn, 0))
}

// P11.3, 3: each instruction takes and puts as many as it says: with one value less it is at fault, with more there is so much more.
func TestTakesAndPuts(t *testing.T) {
	type try struct {
		in          api.Ins
		takes, puts int
	}
	var tries []try
	for op, r := range rowsOf {
		switch op {
		case api.InMake, api.InHandle, api.InJump, api.InUnless, api.InReturn, api.InTail:
		default:
			tries = append(tries, try{api.Ins{Op: op}, r.takes, r.puts})
		}
	}
	tries = append(tries,
		try{is(api.InMake, 1), 2, 1}, try{is(api.InMake, 2), 0, 1},
		try{is(api.InHandle, 0), 3, 1}, try{is(api.InHandle, 1), 2, 1})
	for _, x := range tries {
		for values := range 6 {
			ins := filled(values, x.in)
			if values < x.takes {
				fails(t, "too little", rich(1, append(ins, is(api.InInt, 0))...), api.ErrFlow, 2+values)
				continue
			}
			behind := values - x.takes + x.puts
			passes(t, "enough", rich(1, append(ins, emptied(behind)...)...))
			if behind > 0 {
				more := append(append(ins, emptied(behind-1)...), is(api.InInt, 0))
				fails(t, "more is there", rich(1, more...), api.ErrFlow, 2+len(more)-2)
			}
		}
	}
}

// P11.3, 3: InReturn and InTail take all that is there.
func TestOver(t *testing.T) {
	for values := range 5 {
		for op, takes := range map[int]int{api.InReturn: 1, api.InTail: 2} {
			c := rich(2, filled(values, is(op, 0))...)
			if values == takes {
				passes(t, "just that", c)
			} else {
				fails(t, "less or more", c, api.ErrFlow, 4+values)
			}
		}
	}
}

// P11.3, 3: MaxStack values, and one more.
func TestMaxStack(t *testing.T) {
	const most = api.MaxStack
	passes(t, "MaxStack values", of(filled(most, emptied(most)...)...))
	fails(t, "one more", of(filled(most+1, emptied(most+1)...)...), api.ErrFlow, most)
	fails(t, "one more, and it goes on", of(filled(most+1)...), api.ErrFlow, most)
	fails(t, "as many, and it goes on", of(filled(most)...), api.ErrFlow, most)
	passes(t, "what takes two and puts one", of(filled(most, append(just(api.InPair, api.InInt), emptied(most)...)...)...))
	passes(t, "what takes one and puts one", of(filled(most, append(just(api.InFst), emptied(most)...)...)...))
	for _, in := range []api.Ins{is(api.InArg, 0), is(api.InFree, 1), is(api.InSlot, 1), is(api.InMake, 2)} {
		passes(t, "what puts the last one", rich(1, filled(most-1, append([]api.Ins{in}, emptied(most)...)...)...))
		fails(t, "what puts one more", rich(1, filled(most, append([]api.Ins{in}, emptied(most+1)...)...)...), api.ErrFlow, 2+most)
	}
	many := rich(0, filled(most, append([]api.Ins{is(api.InMake, 1)}, emptied(1)...)...)...)
	many.Funs[1].Free = most
	passes(t, "a function that has caught as many", many)
	many.Funs[1].Free = most + 1
	fails(t, "one that has caught more", many, api.ErrFlow, most)
}

// P11.3, 3: what is known at the places to which instructions jump.
func TestJumps(t *testing.T) {
	num, ret, drop := is(api.InInt, 0), is(api.InReturn, 0), is(api.InDrop, 0)
	jump := func(a int) api.Ins { return is(api.InJump, a) }
	unless := func(a int) api.Ins { return is(api.InUnless, a) }
	for _, x := range []struct {
		about string
		at    int // -1: it passes
		ins   []api.Ins
	}{
		{"onto itself", -1, []api.Ins{jump(0)}},
		{"onto itself, with values", -1, []api.Ins{num, jump(1)}},
		{"onto the next one", -1, []api.Ins{num, jump(2), ret}},
		{"back", -1, []api.Ins{num, drop, jump(0)}},
		{"back with one more", 1, []api.Ins{num, jump(0)}},
		{"back with one less", 2, []api.Ins{num, drop, jump(1)}},
		{"over what nothing is known of", 2, []api.Ins{num, jump(3), num, ret}},
		{"behind a return nothing is known", 2, []api.Ins{num, ret, num, ret}},
		{"behind a tail call nothing is known", 3, []api.Ins{num, num, is(api.InTail, 0), num, ret}},
		{"behind a return it is known by a jump", -1, []api.Ins{num, unless(4), num, ret, num, ret}},
		{"behind a jump it is known by another one", -1, []api.Ins{num, unless(4), num, jump(5), num, ret}},
		{"two ways, the second with more", 5, []api.Ins{num, unless(4), num, jump(6), num, num, ret}},
		{"two ways, the second with less", 4, []api.Ins{num, unless(4), num, jump(5), jump(5), ret}},
		{"unless onto the next one", -1, []api.Ins{num, unless(2), num, ret}},
		{"unless onto itself", 1, []api.Ins{num, unless(1), num, ret}},
		{"unless back", -1, []api.Ins{num, unless(0), num, ret}},
		{"unless back with one less", 2, []api.Ins{num, num, unless(2), ret}},
		{"unless without a value", 0, []api.Ins{unless(1), num, ret}},
		{"unless is the last one", 3, []api.Ins{num, num, unless(1)}},
		{"unless is the last one, and goes back with less", 2, []api.Ins{num, num, unless(0)}},
		{"a jump is the last one", -1, []api.Ins{num, drop, jump(0)}},
		{"the last one goes on", 3, []api.Ins{num, num, is(api.InPair, 0)}},
		{"a store is the last one", 2, []api.Ins{num, is(api.InStore, 0)}},
		{"a call is the last one", 3, []api.Ins{num, num, is(api.InCall, 0)}},
		{"no instruction", 0, nil},
		{"known ahead is not what comes", 3, []api.Ins{num, unless(4), num, num, ret}},
		{"known ahead twice", 3, []api.Ins{num, num, unless(5), unless(5), num, num, ret}},
		{"known twice the same", -1, []api.Ins{num, unless(6), num, unless(6), num, ret, num, ret}},
	} {
		for fun := range 2 {
			c := rich(fun, x.ins...)
			c.Funs[fun].Slots = 1
			if x.at < 0 {
				passes(t, x.about, c)
			} else {
				fails(t, x.about, c, api.ErrFlow, 2*fun+x.at)
			}
		}
	}
}

// P11.3: all short functions of what makes a difference, against the model.
func TestShortFunctions(t *testing.T) {
	var kinds []api.Ins
	for _, op := range []int{api.InInt, api.InDrop, api.InFst, api.InPair, api.InReturn, api.InTail, api.InArg} {
		kinds = append(kinds, is(op, 0))
	}
	for a := range 5 {
		kinds = append(kinds, is(api.InJump, a), is(api.InUnless, a))
	}
	passed := 0
	var each func(ins []api.Ins, more int)
	each = func(ins []api.Ins, more int) {
		if checkCheck(t, rich(1, ins...)).Kind == api.OK {
			passed++
		}
		if more == 0 {
			return
		}
		for _, in := range kinds {
			each(append(ins, in), more-1)
		}
	}
	each(nil, 4)
	t.Log(passed)
	if passed < 100 {
		t.Errorf("only %d pass", passed)
	}
}
