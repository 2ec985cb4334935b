package infer_test

import (
	"slices"
	"strings"
	"testing"

	"effectus/api"
	"effectus/infer"
	"effectus/syntax"
)

// against holds what is said of a text against the model; accepted programs are run. It answers whether the text has types, and how many operations were done.
func against(t *testing.T, text string) (accepted bool, done int) {
	t.Helper()
	tree, fault := syntax.Parse(text)
	if fault.Kind != api.OK {
		return false, 0
	}
	types, fault := infer.Check(tree)
	again, told := infer.Check(tree)
	if !slices.Equal(types, again) || fault != told {
		t.Errorf("%s:\n once %v %v\n then %v %v", text, types, fault, again, told)
	}
	want, wanted, gaveUp := modelCheck(tree)
	if !gaveUp && (!slices.Equal(types, want) || fault != wanted) {
		t.Errorf("%s:\n got %v %v\nwant %v %v", text, types, fault, want, wanted)
	}
	if fault.Kind != api.OK {
		return false, 0
	}
	why, done := run(tree, 2000)
	if why != "" {
		t.Errorf("%s: has types, and goes wrong: %s", text, why)
	}
	return true, done
}

// TestMadePrograms: programs that mostly have types, and such ones with a mistake or two.
func TestMadePrograms(t *testing.T) {
	accepted, refused, doing := 0, 0, 0
	kinds := map[api.Errno]int{}
	for seed := range int64(2000) {
		m := newMaker(seed, []int{0, 0, 200, 40}[seed%4])
		text := m.text()
		if _, fault := infer.Infer(text); fault.Kind != api.OK {
			kinds[fault.Kind]++
		}
		ok, done := against(t, text)
		if ok {
			accepted++
		} else {
			refused++
		}
		if done > 0 {
			doing++
		}
		for range 3 {
			against(t, m.changed(text))
		}
	}
	t.Log(accepted, "accepted,", refused, "refused,", doing, "do something", kinds)
	if accepted < 1000 || refused < 300 || doing < 200 {
		t.Errorf("%d accepted, %d refused, %d do something", accepted, refused, doing)
	}
	for _, kind := range []api.Errno{api.ErrName, api.ErrType, api.ErrRow} {
		if kinds[kind] < 20 {
			t.Errorf("%d of kind %d", kinds[kind], kind)
		}
	}
}

// TestWildPrograms: those of which most have no types.
func TestWildPrograms(t *testing.T) {
	accepted := 0
	for seed := range int64(12000) {
		m := newMaker(seed, 0)
		around := strings.Repeat("fn "+m.name()+" => ", m.Intn(3))
		text := declared + "def id x = x def a x = x main = " + around + "fn b c d => " + m.wild(1+m.Intn(3))
		if ok, _ := against(t, text); ok {
			accepted++
		}
	}
	t.Log(accepted, "accepted")
	if accepted < 1000 {
		t.Errorf("%d accepted", accepted)
	}
}

func FuzzInfer(f *testing.F) {
	for seed := range int64(20) {
		m := newMaker(seed, 40)
		f.Add(m.text())
		f.Add(declared + "main = fn a b => " + m.wild(4))
	}
	f.Fuzz(func(t *testing.T, text string) { against(t, text) })
}
