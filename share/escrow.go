package share

import (
	"math"
	"slices"

	"moiety/act"
	"moiety/api"
	"moiety/rec"
)

// MaxWorkers is how many workers there may be.
const MaxWorkers = 8

// room is how much may be taken, up and down.
type room struct{ up, down uint64 }

// Escrow is what workers may do upon a record, each for itself, so that nothing is refused, whatever the others do.
type Escrow struct {
	kind  int
	names []string // those that a Set has: to join them again needs no room
	left  []room   // of each worker
}

// New: a record's escrow for so many workers.
func New(r api.Record, workers int) (*Escrow, api.Errno) {
	if workers < 1 || workers > MaxWorkers {
		return nil, api.ErrRange
	}
	if e := rec.Check(r); e != api.OK {
		return nil, e
	}
	if _, ok := Slice(r); !ok {
		return nil, api.ErrKind
	}
	return &Escrow{kind: r.Kind, names: joined(r), left: dealOut(all(r), workers)}, api.OK
}

// joined: the names that a Set has; of other kinds none are asked for.
func joined(r api.Record) []string {
	if r.Kind != rec.Set {
		return nil
	}
	var names []string
	for _, item := range r.List {
		names = append(names, item.Name)
	}
	return names
}

// all: what may be taken of a record by all workers together.
func all(r api.Record) room {
	switch r.Kind {
	case rec.Count:
		return room{up: apart(r.Num, math.MaxInt64), down: apart(math.MinInt64, r.Num)}
	case rec.Purse:
		return room{up: apart(r.Num, r.High), down: apart(r.Low, r.Num)}
	case rec.Set:
		return room{up: uint64(r.Cap - len(r.List))}
	}
	return room{}
}

// apart: how far it is from low to high, which may be more than an int64 holds.
func apart(low, high int64) uint64 { return uint64(high) - uint64(low) }

func dealOut(total room, workers int) []room {
	left := make([]room, workers)
	for w := range left {
		left[w] = room{up: portion(total.up, w, workers), down: portion(total.down, w, workers)}
	}
	return left
}

// portion: what a worker gets of a total.
func portion(total uint64, worker, workers int) uint64 {
	n := uint64(workers)
	if uint64(worker) < total%n {
		return total/n + 1
	}
	return total / n
}

// Left: what a worker may still do.
func (e *Escrow) Left(worker int) (up, down uint64) {
	if !e.has(worker) {
		return 0, 0
	}
	return e.left[worker].up, e.left[worker].down
}

func (e *Escrow) has(worker int) bool { return 0 <= worker && worker < len(e.left) }

// Clone: the same escrow, apart.
func (e *Escrow) Clone() *Escrow {
	return &Escrow{kind: e.kind, names: slices.Clone(e.names), left: slices.Clone(e.left)}
}

// Draw: a worker takes what some acts need, of all of them, or of none.
func (e *Escrow) Draw(worker int, l ...api.Act) api.Errno {
	if !e.has(worker) {
		return api.ErrRange
	}
	left := e.left[worker]
	for _, a := range l {
		if fault := e.take(&left, a); fault != api.OK {
			return fault
		}
	}
	e.left[worker] = left
	return api.OK
}

// take takes what an act needs out of what is left, or says why it can't.
func (e *Escrow) take(left *room, a api.Act) api.Errno {
	if fault := act.Check(a); fault != api.OK {
		return fault
	}
	if !Splits(e.kind, a.Kind) {
		return api.ErrKind
	}
	need := e.need(a)
	if need.up > left.up {
		return tooMuch(a.Kind)
	}
	if need.down > left.down {
		return api.ErrLow
	}
	left.up -= need.up
	left.down -= need.down
	return api.OK
}

// tooMuch: how it is told that there isn't so much up.
func tooMuch(k int) api.Errno {
	if k == act.Join {
		return api.ErrFull
	}
	return api.ErrOver
}

// need: what an act that may be takes.
func (e *Escrow) need(a api.Act) room {
	switch a.Kind {
	case act.Plus:
		return needOfPlus(a.N)
	case act.In:
		return room{up: uint64(a.N)}
	case act.Out:
		return room{down: uint64(a.N)}
	case act.Join:
		if !slices.Contains(e.names, a.S) {
			return room{up: 1}
		}
	}
	return room{}
}

func needOfPlus(n int64) room {
	if n < 0 {
		// Turned as a uint64, which the least int64 turned fits.
		return room{down: -uint64(n)}
	}
	return room{up: uint64(n)}
}
