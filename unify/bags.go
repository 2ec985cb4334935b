package unify

import (
	"slices"
	"strings"
)

// bag is operations in the order of their bytes, each one with how often it stands there.
type bag []share

type share struct {
	op    string
	times int
}

// bagOf takes operations in any order.
func bagOf(ops []string) bag {
	var all bag
	for _, op := range slices.Sorted(slices.Values(ops)) {
		if last := len(all) - 1; last >= 0 && all[last].op == op {
			all[last].times++
			continue
		}
		all = append(all, share{op: op, times: 1})
	}
	return all
}

// list answers the operations, each as often as it stands there.
func (b bag) list() []string {
	var all []string
	for _, s := range b {
		all = append(all, slices.Repeat([]string{s.op}, s.times)...)
	}
	return all
}

func (b bag) size() int {
	size := 0
	for _, s := range b {
		size += s.times
	}
	return size
}

func (b bag) times(op string) int {
	at, found := slices.BinarySearchFunc(b, op, func(s share, op string) int { return strings.Compare(s.op, op) })
	if !found {
		return 0
	}
	return b[at].times
}

// lacking answers those operations that another bag lacks, each as often as it is lacking there.
func (b bag) lacking(other bag) bag {
	var missing bag
	for _, s := range b {
		if more := s.times - other.times(s.op); more > 0 {
			missing = append(missing, share{op: s.op, times: more})
		}
	}
	return missing
}

func (b bag) join(other bag) bag {
	var all bag
	for _, s := range b {
		all = append(all, share{op: s.op, times: s.times + other.times(s.op)})
	}
	for _, s := range other {
		if b.times(s.op) == 0 {
			all = append(all, s)
		}
	}
	slices.SortFunc(all, func(a, b share) int { return strings.Compare(a.op, b.op) })
	return all
}
