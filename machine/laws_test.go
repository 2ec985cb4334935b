package machine_test

import (
	"testing"

	"effectus/api"
	"effectus/code"
	"effectus/machine"
)

// TestMade: whatever codes do, by chance, is as the model does it, instruction by instruction, on a great heap and on small ones.
func TestMade(t *testing.T) {
	kinds := map[int]int{}
	steps, records := 0, recordCount{}
	for seed := range int64(2000) {
		m := newMaker(seed)
		c := m.code()
		great := play(t, c, 3000, 200)
		kinds[great.Kind]++
		steps += great.Steps
		records.count(c)
		kinds[play(t, c, m.upTo(60), 200).Kind]++
	}
	t.Log(kinds, steps, records)
	for kind := api.Going; kind <= api.Wrong; kind++ {
		if kinds[kind] < 50 {
			t.Errorf("%d outcomes of kind %d", kinds[kind], kind)
		}
	}
	if records.made < 1000 || records.resumed < 1000 || records.nested < 100 || records.bare < 20 || records.left < 5 {
		t.Errorf("too little was met: %+v", records)
	}
}

// recordCount counts resumptions: how many there were made and applied, with several segments, with one that has no tag, from which one was left out.
type recordCount struct{ made, resumed, nested, bare, left int }

func (r *recordCount) count(c api.Code) {
	m := newModel(c, 3000)
	for range 200 {
		if m.outcome.Kind != api.Going {
			return
		}
		call := m.segments[len(m.segments)-1].calls
		last := call[len(call)-1]
		in := m.code.Funs[number(last.function)].Ins[last.place]
		segments := len(m.segments)
		if m.step() == 0 {
			return
		}
		switch now := len(m.segments); {
		case in.Op == api.InDo:
			r.taken(m, segments-now)
		case (in.Op == api.InCall || in.Op == api.InTail) && now > segments:
			r.resumed++
		}
	}
}

// taken counts the resumption that the innermost call has in its argument, which came of so many segments.
func (r *recordCount) taken(m *model, segments int) {
	s := m.segments[len(m.segments)-1]
	x := s.calls[len(s.calls)-1].argument.to.fields[1].to
	r.made++
	if len(x.segments) > 1 {
		r.nested++
	}
	if len(x.segments) < segments {
		r.left++
	}
	for _, s := range x.segments[1:] {
		if s.tag == nil {
			r.bare++
			return
		}
	}
}

// TestAnyHeap: where a code needs so many cells it ends as Memory on every smaller heap, at the first instruction for which there is no room, and comes to the same on every greater one.
func TestAnyHeap(t *testing.T) {
	ended := 0
	for seed := range int64(400) {
		c := newMaker(100000 + seed).code()
		s := encode(t, c)
		great, _ := machine.Play(s, api.MaxHeap/100, 200)
		if great.Kind == api.Memory {
			continue
		}
		before := api.Outcome{}
		least := -1
		for cells := range 120 {
			got, _ := machine.Play(s, cells, 200)
			switch {
			case got.Kind == api.Memory && least < 0:
				if got.Steps < before.Steps || got.Steps >= great.Steps {
					t.Fatalf("%s, %d cells: %+v, with one less %+v, with many %+v", written(c), cells, got, before, great)
				}
			case got != great:
				t.Fatalf("%s, %d cells: %+v, with many %+v", written(c), cells, got, great)
			case least < 0:
				least = cells
			}
			before = got
		}
		if least > 0 {
			ended++
			checkPeak(t, c, least)
		}
	}
	t.Log(ended)
	if ended < 150 {
		t.Errorf("%d codes came to an end", ended)
	}
}

// checkPeak wants a heap of so many cells to be the least one: what is reached and what is made never takes more, and takes as much once.
func checkPeak(t *testing.T, c api.Code, least int) {
	t.Helper()
	m := newModel(c, api.MaxHeap)
	peak := 0
	for range 200 {
		before := m.live()
		if m.step() == 0 {
			break
		}
		if m.made > 0 {
			peak = max(peak, before+m.made)
		}
	}
	if peak != least {
		t.Fatalf("%s: %d cells are enough, want %d", written(c), least, peak)
	}
}

// TestPieces: it does not matter in which pieces instructions are done, nor what is asked meanwhile.
func TestPieces(t *testing.T) {
	for seed := range int64(500) {
		m := newMaker(200000 + seed)
		c := m.code()
		cells := m.upTo(100)
		whole := load(t, c, cells)
		all := whole.Go(400)
		pieces := load(t, c, cells)
		did := 0
		for did < 400 {
			n := pieces.Go(min(1+m.upTo(20), 400-did))
			did += n
			if m.upTo(1) == 0 && pieces.Live() > cells {
				t.Fatalf("%s: %d cells are reached of %d", written(c), pieces.Live(), cells)
			}
			if n == 0 {
				break
			}
		}
		if all != did || whole.Tell() != pieces.Tell() || whole.Live() != pieces.Live() {
			t.Fatalf("%s, %d cells: %d %+v, in pieces %d %+v", written(c), cells, all, whole.Tell(), did, pieces.Tell())
		}
	}
}

// FuzzPlay: whatever the bytes are, all is as the model says.
func FuzzPlay(f *testing.F) {
	for seed := range int64(20) {
		f.Add([]byte(encode(f, newMaker(seed).code())), 100)
	}
	f.Fuzz(func(t *testing.T, bytes []byte, cells int) {
		c, fault := code.Decode(string(bytes))
		if fault.Kind == api.OK {
			fault = code.Check(c)
		}
		if fault.Kind == api.OK && (cells < 0 || cells > api.MaxHeap) {
			fault = api.Fault{Kind: api.ErrArg}
		}
		if _, got := machine.Load(string(bytes), cells); got != fault {
			t.Fatalf("%v, want %v", got, fault)
		}
		if fault.Kind == api.OK && len(bytes) < 2000 && slotsOf(c) < 1000 {
			play(t, c, cells, 100)
		}
	})
}

func slotsOf(c api.Code) int {
	most := 0
	for _, f := range c.Funs {
		most = max(most, f.Slots)
	}
	return most
}
