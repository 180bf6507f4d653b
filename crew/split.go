package crew

import (
	"moiety/api"
	"moiety/share"
	"moiety/shelf"
)

// split is records as slices, one for each worker, by their keys; whole they stand on a shelf.
type split map[string][]api.Record

// newSplit: empty slices of some keys' records.
func newSplit(s shelf.Shelf, keys []string, workers int) split {
	x := split{}
	for _, key := range keys {
		r, _ := s.Get(key)
		for range workers {
			part, _ := share.Slice(r)
			x[key] = append(x[key], part)
		}
	}
	return x
}

// do: acts upon a worker's own slices.
func (x split) do(worker int, l []api.Act) {
	for _, a := range l {
		parts := x[a.Key]
		parts[worker] = share.Do(parts[worker], a)
	}
}

// together: a shelf upon which each record is what it is with its slices.
func (x split) together(s shelf.Shelf) shelf.Shelf {
	for key, parts := range x {
		r, _ := s.Get(key)
		s, _ = s.Set(key, share.Merge(r, parts...))
	}
	return s
}
