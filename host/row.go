package host

import (
	"slices"

	"posthouse/api"
)

// maxRow is how many things a row of a host's has at most.
const maxRow = 8

// thing is what stands in a row of a host's, in which no two have the same identifier.
type thing interface {
	id() api.Id
	right() bool
}

// named gives its identifier to the thing that embeds it.
type named struct {
	name api.Id
}

func (n named) id() api.Id { return n.name }

// want is an identifier of which a host wants packets.
type want struct {
	named
	life int
}

func (w want) right() bool { return w.life >= 1 && w.life <= api.MaxLife }

// hint is which server an identifier was found at.
type hint struct {
	named
	no, until int
}

func (x hint) right() bool { return isServer(x.no) && isTime(x.until) }

// rowMayBe tells whether a row of things may be.
func rowMayBe[T thing](l []T) bool {
	if len(l) > maxRow {
		return false
	}
	for i, x := range l {
		if !x.right() || place(l[:i], x.id()) >= 0 {
			return false
		}
	}
	return true
}

// place is where the thing of an identifier stands, or -1.
func place[T thing](l []T, id api.Id) int {
	return slices.IndexFunc(l, func(x T) bool { return x.id() == id })
}

// without is a row from which the thing of an identifier is gone, in the row's own memory.
func without[T thing](l []T, id api.Id) []T {
	return slices.DeleteFunc(l, func(x T) bool { return x.id() == id })
}
