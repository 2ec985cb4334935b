package prelude_test

import (
	"fmt"
	"iter"
	"slices"
	"strings"
	"testing"

	"effectus/api"
	"effectus/prelude"
)

// mostDone is how many operations an expression does at most for its main to come to a value in time.
const mostDone = 300

// over is what the model panics with where an expression goes on no further, and its number.
type over struct{ n int }

// tooMany is what it panics with where more operations are done than are promised for.
type tooMany struct{}

// until runs an expression to its end, or to where it goes on no further.
func until(e made, do doer) (n int, ended bool) {
	defer func() {
		switch r := recover().(type) {
		case nil:
		case over:
			n = r.n
		default:
			panic(r)
		}
	}()
	done := 0
	return e.run(nil, func(op string, n int, thread func(doer)) int {
		if done++; done > mostDone {
			panic(tooMany{})
		}
		return do(op, n, thread)
	}), true
}

// shown writes a list as values are shown.
func shown[T any](list []T) string {
	parts := make([]string, len(list))
	for i, v := range list {
		parts[i] = fmt.Sprint(v)
	}
	text := "[" + strings.Join(parts, ", ") + "]"
	if len(text) > api.MaxShown {
		return text[:api.MaxShown] + "..."
	}
	return text
}

func stated(e made, last int) string {
	n, _ := until(e, func(op string, n int, _ func(doer)) int {
		if op == "put" {
			last = n
		}
		return last
	})
	return fmt.Sprintf("(%d, %d)", n, last)
}

// ways are all that an expression comes to, each with its flips: these are true ahead of false.
func ways(e made) iter.Seq2[int, []bool] {
	return func(yield func(int, []bool) bool) {
		var flips []bool
		for all := 1; ; all++ {
			if all > mostDone {
				panic(tooMany{})
			}
			at := 0
			n := e.run(nil, func(string, int, func(doer)) int {
				if at++; at > len(flips) {
					flips = append(flips, true)
				}
				if flips[at-1] {
					return 1
				}
				return 0
			})
			if !yield(n, flips) {
				return
			}
			last := len(flips) - 1
			for ; last >= 0 && !flips[last]; last-- {
			}
			if last < 0 {
				return
			}
			flips = append(slices.Clone(flips[:last]), false)
		}
	}
}

func allOf(e made) string {
	var all []int
	for n := range ways(e) {
		all = append(all, n)
	}
	return shown(all)
}

func firstOf(e made, below int) string {
	for n, flips := range ways(e) {
		if n < below {
			return shown(flips)
		}
	}
	return "[]"
}

// taken is what is emitted, up to a number; and whether the expression went on to its end.
func taken(e made, most int) (string, bool) {
	if most < 1 {
		return "[]", false
	}
	var all []int
	_, ended := until(e, func(_ string, n int, _ func(doer)) int {
		if all = append(all, n); len(all) == most {
			panic(over{})
		}
		return 0
	})
	return shown(all), ended
}

// event is what a thread does.
type event struct {
	op     string
	n      int
	thread func(doer)
}

// begun is a thread that goes on from event to event.
func begun(thread func(doer)) iter.Seq[event] {
	return func(yield func(event) bool) {
		defer func() {
			if r := recover(); r != nil && r != (over{}) {
				panic(r)
			}
		}()
		thread(func(op string, n int, thread func(doer)) int {
			if !yield(event{op, n, thread}) {
				panic(over{})
			}
			return 0
		})
	}
}

func said(e made) string {
	type waiting func() (event, bool)
	var all []int
	var queue []waiting
	start := func(thread func(doer)) func() {
		next, stop := iter.Pull(begun(thread))
		queue = append(queue, next)
		return stop
	}
	defer start(func(do doer) { e.run(nil, do) })()
	for done := 0; len(queue) > 0; {
		next := queue[0]
		queue = queue[1:]
		for what, more := next(); more; what, more = next() {
			if done++; done > mostDone {
				panic(tooMany{})
			}
			if what.op == "yield" {
				queue = append(queue, next)
				break
			}
			if what.op == "say" {
				all = append(all, what.n)
			}
			if what.op == "fork" {
				defer start(what.thread)()
			}
		}
	}
	return shown(all)
}

func caught(e made) string {
	n, ended := until(e, func(_ string, n int, _ func(doer)) int { panic(over{n}) })
	if !ended {
		return "[]"
	}
	return shown([]int{n})
}

func retried(e made, times int) string {
	n, _ := until(e, func(_ string, n int, _ func(doer)) int {
		if times < 1 {
			panic(over{n})
		}
		times--
		return n + 1
	})
	return fmt.Sprint(n)
}

// written is a number as texts have it.
func written(n int) string { return strings.Replace(fmt.Sprint(n), "-", "~", 1) }

// mains are made of an expression, each with what it comes to by the model.
func mains(m maker, e made) [][2]string {
	f, few := "(fn u => "+e.text+")", m.Intn(8)-1
	n := written(few)
	switch m.name {
	case "state":
		return [][2]string{{"state " + n + " " + f, stated(e, few)}}
	case "choose":
		return [][2]string{{"all " + f, allOf(e)}, {"first (fn u => " + e.text + " < " + n + ")", firstOf(e, few)}}
	case "gen":
		return generated(e, few)
	case "sched":
		return [][2]string{{"run (fn u => (" + e.text + "; ()))", said(e)}}
	}
	return [][2]string{{"catch " + f, caught(e)}, {"retry " + n + " " + f, retried(e, few)}}
}

func generated(e made, few int) [][2]string {
	all, _ := taken(e, mostDone+1)
	some, ended := taken(e, few)
	table := [][2]string{{"emitted (fn u => " + e.text + ")", all}, {"take " + written(few) + " (fn u => " + e.text + ")", some}}
	if ended {
		return table
	}
	return append(table, [2]string{"let rec spin u = spin u in take " + written(few) + " (fn u => (" + e.text + "; spin ()))", some})
}

// tried are the mains of an expression, if it does not do too many operations.
func tried(m maker, e made) (table [][2]string) {
	defer func() {
		if r := recover(); r != nil && r != (tooMany{}) {
			panic(r)
		}
	}()
	return mains(m, e)
}

// TestMade: what is made of expressions comes to what the model says.
func TestMade(t *testing.T) {
	for name := range names {
		values := map[string]int{}
		for seed := range int64(1000) {
			m := newMaker(name, seed)
			e := m.number(2+m.Intn(3), 0)
			text := prelude.Text(name)
			if len(text+e.text)+100 > api.MaxText {
				continue
			}
			table := tried(m, e)
			checkValues(t, text, table)
			for _, row := range table {
				values[row[1]]++
			}
		}
		if len(values) < 60 {
			t.Errorf("%s: only %d values", name, len(values))
		}
	}
}
