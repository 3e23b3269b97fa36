package trace

import (
	"slices"

	"posthouse/api"
)

// place is an identifier that begins with a byte.
func place(b byte) api.Id { return api.Id{0: b, 15: 3, 31: 7} }

func toId(a api.Id) api.Entry { return api.Entry{Kind: api.EId, Id: a} }

func toHost(n int) api.Entry { return api.Entry{Kind: api.EHost, Host: n} }

func trig(a api.Id, target api.Entry, until int) api.Trigger {
	return api.Trigger{Id: a, Target: target, Until: until}
}

// none is by what goes on that goes on by no trigger.
func none() api.Trigger { return api.Trigger{} }

func send(at, no, letter int, data string) api.Note {
	return api.Note{Kind: api.NSend, At: at, No: no, Letter: letter, Data: data}
}

func admit(at, no int, x api.Trigger) api.Note {
	return api.Note{Kind: api.NAdmit, At: at, No: no, Trigger: x}
}

func on(at, no, was, letter int, x api.Trigger) api.Note {
	return api.Note{Kind: api.NOn, At: at, No: no, Was: was, Letter: letter, Trigger: x}
}

func get(at, no, was int, data string) api.Note {
	return api.Note{Kind: api.NGet, At: at, No: no, Was: was, Data: data}
}

func lost(at, no, was int, why api.Errno) api.Note {
	return api.Note{Kind: api.NLost, At: at, No: no, Was: was, Why: why}
}

// bears tells whether a note has a letter be known.
func bears(n api.Note) bool { return n.Kind == api.NSend || n.Kind == api.NOn }

// birth is the place of the first note that has a letter be known, or -1.
func birth(l []api.Note, letter int) int {
	return slices.IndexFunc(l, func(n api.Note) bool { return bears(n) && n.Letter == letter })
}

// modelData is the data that a letter is known with.
func modelData(l []api.Note, letter int) (string, bool) {
	i := birth(l, letter)
	if i < 0 {
		return "", false
	}
	if l[i].Kind == api.NSend {
		return l[i].Data, true
	}
	return modelData(l[:i], l[i].Was)
}

// modelJustified tells of a note whether those ahead of it justify it, by going through all of them anew.
func modelJustified(l []api.Note, n api.Note) bool {
	if len(l) > 0 && l[len(l)-1].At > n.At {
		return false
	}
	data, is := modelData(l, n.Was)
	isNew := n.Letter > 0 && birth(l, n.Letter) < 0
	switch n.Kind {
	case api.NSend:
		return isNew
	case api.NAdmit, api.NLost:
		return true
	case api.NOn:
		x := n.Trigger
		admitted := slices.ContainsFunc(l, func(m api.Note) bool {
			y := m.Trigger
			return m.Kind == api.NAdmit && x.Id == y.Id && x.Target == y.Target && x.Until == y.Until
		})
		return is && isNew && (x == none() || admitted && x.Until > n.At)
	case api.NGet:
		return is && data == n.Data
	}
	return false
}

func modelCheck(l []api.Note) (int, api.Errno) {
	if len(l) > 1000 {
		return 0, api.ErrLong
	}
	for i, n := range l {
		if !modelJustified(l[:i], n) {
			return i, api.ErrProof
		}
	}
	return len(l), api.OK
}

func modelChain(l []api.Note, at int) ([]api.Trigger, int, api.Errno) {
	if _, err := modelCheck(l); err != api.OK {
		return nil, 0, err
	}
	if at < 0 || at >= len(l) || l[at].Kind != api.NGet {
		return nil, 0, api.ErrNone
	}
	by, no := modelWay(l, l[at].Was)
	return by, no, api.OK
}

func modelWay(l []api.Note, letter int) ([]api.Trigger, int) {
	n := l[birth(l, letter)]
	if n.Kind == api.NSend {
		return nil, n.No
	}
	by, no := modelWay(l, n.Was)
	if n.Trigger != none() {
		by = append(by, n.Trigger)
	}
	return by, no
}

// modelCost puts a letter into a set, and then what came of one of the set, until nothing is left to put there.
func modelCost(l []api.Note, letter int) (int, api.Errno) {
	if _, err := modelCheck(l); err != api.OK {
		return 0, err
	}
	if i := birth(l, letter); i < 0 || l[i].Kind != api.NSend {
		return 0, api.ErrNone
	}
	came := map[int]int{letter: 1}
	for was := 0; was < len(came); {
		was = len(came)
		for _, n := range l {
			if n.Kind == api.NOn && came[n.Was] == 1 {
				came[n.Letter] = 1
			}
		}
	}
	return len(came), api.OK
}
