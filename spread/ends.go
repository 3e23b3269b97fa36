package spread

import (
	"slices"

	"posthouse/api"
)

// Behind the hosts' counts stand those of the copies that are dead, by why.
const (
	lost = api.MaxHosts + iota
	outOfHops
	allEnds
)

// ends is how many copies came to each end.
type ends [allEnds]int

// note counts a copy that does not go on.
func (e *ends) note(x api.Out) {
	switch {
	case x.Kind == api.OHost:
		e[x.Host]++
	case x.Why == api.ErrHops:
		e[outOfHops]++
	default:
		e[lost]++
	}
}

// hosts is the hosts, the least first, each as often as a copy came there.
func (e *ends) hosts() []int {
	var l []int
	for host, count := range e[:api.MaxHosts] {
		l = append(l, slices.Repeat([]int{host}, count)...)
	}
	return l
}
