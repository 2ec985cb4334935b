package meaning

// sight is the names in sight: what the nearest one stands for, and those around it. Each has a second way outwards, past
// many others, so that a name is found in few moves however far away it stands.
type sight struct {
	value      value
	outer, far *sight
	depth      int // how many names are in sight
}

func noSight() *sight {
	s := &sight{}
	s.far = s
	return s
}

// with answers what is in sight of where one more name is.
func (s *sight) with(v value) *sight {
	inner := &sight{value: v, outer: s, far: s, depth: s.depth + 1}
	// Two ways of the same length one behind the other are made one: lengths grow as the digits of a number do.
	if further := s.far.far; s.depth-s.far.depth == s.far.depth-further.depth {
		inner.far = further
	}
	return inner
}

// at answers what the name stands for that was in sight when there were so many of them.
func (s *sight) at(depth int) value {
	for s.depth > depth {
		if s.far.depth < depth {
			s = s.outer
		} else {
			s = s.far
		}
	}
	return s.value
}
