package infer

import (
	"effectus/api"
	"effectus/unify"
)

// refusal is what a rule panics with where types cannot be found.
type refusal struct{ fault api.Fault }

func refuse(kind api.Errno, at int) {
	panic(refusal{api.Fault{Kind: kind, At: at}})
}

// checker has what the operations and the names in sight stand for.
type checker struct {
	ops   map[string]operation
	names map[string]binding
	round int // the last one in which types were measured or marked
}

type operation struct{ takes, gives *unify.Node }

func newChecker() *checker {
	return &checker{ops: map[string]operation{}, names: map[string]binding{}}
}

func (c *checker) nextRound() int {
	c.round++
	return c.round
}

// same makes two types the same.
func (c *checker) same(a, b *unify.Node, at int) {
	if a.Now() == b.Now() {
		return
	}
	if !unify.Same(a, b) || a.Measure(c.nextRound()) == 0 {
		refuse(api.ErrType, at)
	}
}

// fits lets no type through that has too many parts.
func (c *checker) fits(t *unify.Node, at int) {
	if t.Measure(c.nextRound()) > api.MaxType {
		refuse(api.ErrBig, at)
	}
}

func sameRow(a, b unify.Row, at int) {
	if !unify.SameRow(a, b) {
		refuse(api.ErrRow, at)
	}
}
