package proof

import "slices"

// set has each of its members once, in the order in which they came, so that taking off hangs on nothing else.
type set[T comparable] struct {
	members []T
}

func (s *set[T]) add(x T) {
	if !slices.Contains(s.members, x) {
		s.members = append(s.members, x)
	}
}

func (s *set[T]) some(fits func(T) bool) bool { return slices.ContainsFunc(s.members, fits) }

func (s *set[T]) empty() bool { return len(s.members) == 0 }

// takeOff takes off the first member that fits, and tells whether there was one.
func (s *set[T]) takeOff(fits func(T) bool) bool {
	i := slices.IndexFunc(s.members, fits)
	if i < 0 {
		return false
	}
	s.members = slices.Delete(s.members, i, i+1)
	return true
}
