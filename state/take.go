package state

import (
	"inkwell/api"
	"inkwell/op"
)

// take does with an operation that was told what P10 says: it is left, applied, or pending.
func (s *State) take(o op.Operation) {
	switch {
	case s.knows(o.Name):
		// It came twice, and must not be done twice.
	case s.ready(o):
		s.apply(o)
		s.applyPending()
	case len(s.pending) < api.MaxPending:
		s.pending[o.Name] = o
	}
}

// knows tells whether the clock counts an operation, or one of that name is pending.
func (s *State) knows(name op.Name) bool {
	_, waits := s.pending[name]
	return waits || name.Number <= s.clock.Of(name.Origin)
}

// ready tells whether an operation can be applied now (P11).
func (s *State) ready(o op.Operation) bool {
	// What its clock has of its own origin is its number less 1 in every frame, so that all copies may be asked alike.
	return o.Number == s.clock.Of(o.Origin)+1 &&
		s.clock.Covers(o.Clock) &&
		s.line.Has(o.Target) &&
		(o.Kind != op.Insert || !s.line.Has(o.Mark()))
}

// applyPending applies what waits, as long as something of it is ready: each that is applied may have been what another waits for.
func (s *State) applyPending() {
	for o, found := s.firstReady(); found; o, found = s.firstReady() {
		delete(s.pending, o.Name)
		s.apply(o)
	}
}

// firstReady gives the pending operation that is the first of those that are ready, by origin, then by number.
func (s *State) firstReady() (op.Operation, bool) {
	for origin := 1; origin <= s.copies; origin++ {
		// Of one origin only the next number can be ready.
		o, waits := s.pending[op.Name{Origin: origin, Number: s.clock.Of(origin) + 1}]
		if waits && s.ready(o) {
			return o, true
		}
	}
	return op.Operation{}, false
}
