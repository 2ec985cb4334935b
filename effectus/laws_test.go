package effectus_test

import (
	"testing"

	"effectus/api"
	"effectus/infer"
)

// TestMade: the codes of made programs come to what the programs mean, on great heaps and on small ones.
func TestMade(t *testing.T) {
	for _, row := range []struct{ depth, texts, held, going int }{{2, 6000, 5000, 0}, {3, 2500, 1500, 0}, {4, 1000, 100, 1}} {
		kinds := map[int]int{}
		faults, held := 0, 0
		for seed := range int64(row.texts) {
			text := newMaker(seed).text(row.depth)
			if _, fault := infer.Infer(text); fault.Kind != api.OK {
				checkFault(t, text)
				faults++
				continue
			}
			c := checkCode(t, text, 20000)
			kinds[c.text.Kind]++
			if c.code.Kind == api.Memory && c.waiting <= mostWaiting {
				t.Errorf("%s: %v", text, c.code)
			}
			if c.held {
				held++
			}
			if c.code.Kind != api.Going && seed%5 == 0 {
				checkSmall(t, text, c.code)
			}
		}
		t.Log(row.depth, kinds, faults, held)
		if kinds[api.Done] < row.texts/2 || kinds[api.Spent] < row.texts/500 || kinds[api.Going] < row.going || held < row.held {
			t.Errorf("depth %d: %v, %d faults, %d with a heap as great as it is to be", row.depth, kinds, faults, held)
		}
	}
}

func FuzzRun(f *testing.F) {
	for seed := range int64(30) {
		f.Add(newMaker(seed).text(3))
	}
	f.Fuzz(func(t *testing.T, text string) {
		if _, fault := infer.Infer(text); fault.Kind != api.OK {
			checkFault(t, text)
			return
		}
		checkCode(t, text, 1000)
	})
}
