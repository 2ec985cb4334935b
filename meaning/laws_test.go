package meaning_test

import (
	"testing"

	"effectus/api"
	"effectus/meaning"
)

// against holds a text's run, if it has types, against the model. It answers how many operations were done, and how many
// resumptions applied.
func against(t *testing.T, text string, fuel int) (outcome api.Outcome, typed bool, done, resumed int) {
	t.Helper()
	outcome, fault := meaning.Run(text, fuel)
	if fault.Kind != api.OK {
		return api.Outcome{}, false, 0, 0
	}
	want, done, resumed := modelRun(text, fuel)
	if outcome != want {
		t.Errorf("%s\nwith %d:\n got %v\nwant %v", text, fuel, outcome, want)
	}
	if outcome.Kind == api.Wrong || outcome.Kind == api.Memory {
		t.Errorf("%s\nwith %d: %v", text, fuel, outcome)
	}
	return outcome, true, done, resumed
}

// TestMadePrograms: programs come to what the model says, with any fuel.
func TestMadePrograms(t *testing.T) {
	kinds := map[int]int{}
	ops := map[string]int{}
	doing, resuming := 0, 0
	for seed := range int64(5000) {
		m := newMaker(seed)
		text := m.text()
		outcome, typed, done, resumed := against(t, text, 2000)
		if !typed {
			continue
		}
		kinds[outcome.Kind]++
		ops[outcome.Op]++
		if done > 1 {
			doing++
		}
		if resumed > done {
			resuming++
		}
		if outcome.Kind == api.Going {
			continue
		}
		less := m.Intn(outcome.Steps)
		if going := run(t, text, less); going != (api.Outcome{Kind: api.Going, Steps: less}) {
			t.Errorf("%s\nwith %d: %v", text, less, going)
		}
		for _, fuel := range []int{outcome.Steps, outcome.Steps + 1 + m.Intn(plenty), api.MaxFuel} {
			if again := run(t, text, fuel); again != outcome {
				t.Errorf("%s\nwith %d: %v, want %v", text, fuel, again, outcome)
			}
		}
	}
	t.Log(kinds, ops, doing, "do more than one operation,", resuming, "go on more than once")
	if kinds[api.Done] < 800 || kinds[api.Spent] < 200 || kinds[api.Going] < 20 || ops["get"] < 50 || ops["ask"] < 50 || doing < 800 || resuming < 200 {
		t.Errorf("%v %v, %d do more than one operation, %d go on more than once", kinds, ops, doing, resuming)
	}
}

func FuzzRun(f *testing.F) {
	for seed := range int64(20) {
		f.Add(newMaker(seed).text())
	}
	f.Fuzz(func(t *testing.T, text string) { against(t, text, 500) })
}
