package machine

import "effectus/api"

// pageSize is how many slots stand in one page.
const pageSize = 256

// slots are the slots of a call. They stand in pages, of which there are only those into which something was stored:
// a function may have very many slots, and a call of it is not to cost more than it uses.
type slots struct {
	count int
	pages [][]api.Cell // a page that is not there, or nil, has the number 0 in all its slots
}

func (s *slots) get(i int) api.Cell {
	n := i / pageSize
	if n >= len(s.pages) || s.pages[n] == nil {
		return api.Cell{}
	}
	return s.pages[n][i%pageSize]
}

func (s *slots) set(i int, c api.Cell) {
	if s.get(i) == c {
		return
	}
	n := i / pageSize
	if n >= len(s.pages) {
		s.pages = append(s.pages, make([][]api.Cell, n+1-len(s.pages))...)
	}
	if s.pages[n] == nil {
		s.pages[n] = make([]api.Cell, min(pageSize, s.count-n*pageSize))
	}
	s.pages[n][i%pageSize] = c
}

// stored ranges over the slots that may not be the number 0.
func (s *slots) stored(yield func(int, api.Cell) bool) {
	for n, page := range s.pages {
		for i, c := range page {
			if !yield(n*pageSize+i, c) {
				return
			}
		}
	}
}

// cells ranges over the places of these; false, if yield wanted no more.
func (s *slots) cells(yield func(*api.Cell) bool) bool {
	for _, page := range s.pages {
		if !each(page, yield) {
			return false
		}
	}
	return true
}
