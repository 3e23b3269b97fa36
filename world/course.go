package world

import (
	"cmp"
	"slices"

	"posthouse/api"
)

// course is a world in which something happens, and what was noted of that.
type course struct {
	api.World
	notes []api.Note
}

// acts is what each kind of act has happen. A course is of no use any more, if that tells an error.
func acts() map[int]func(*course, api.Act) api.Errno {
	return map[int]func(*course, api.Act) api.Errno{
		api.WJoin:   (*course).join,
		api.WLeave:  (*course).leave,
		api.WFail:   (*course).fail,
		api.WRound:  (*course).round,
		api.WPass:   (*course).pass,
		api.WHost:   (*course).newHost,
		api.WWant:   (*course).want,
		api.WUnwant: (*course).unwant,
		api.WAsk:    (*course).ask,
		api.WSend:   (*course).send,
		api.WBring:  (*course).bring,
		api.WTwice:  (*course).twice,
		api.WLose:   (*course).lose,
		api.WLast:   (*course).last,
		api.WLink:   (*course).link,
	}
}

// note has it noted that something happened now.
func (c *course) note(n api.Note) {
	n.At = c.Mail.Now
	c.notes = append(c.notes, n)
}

// server is the server of a number, as it stands in the world; nil, if it does not live.
func (c *course) server(no int) *api.Server {
	return find(c.Servers, no, serverNo)
}

// host is the host of a number, as it stands in the world; nil, if it is not there.
func (c *course) host(no int) *api.Host {
	return find(c.Hosts, no, hostNo)
}

func serverNo(s api.Server) int { return s.No }

func hostNo(h api.Host) int { return h.No }

// hostAddress is the address of a host: all servers' are ahead of it.
func hostAddress(no int) int { return api.MaxNodes + no }

// find is the one of a number in a row, as it stands there; nil, if there is none.
func find[T any](l []T, no int, noOf func(T) int) *T {
	for i := range l {
		if noOf(l[i]) == no {
			return &l[i]
		}
	}
	return nil
}

// placed is a row with one more, in its place by its number.
func placed[T any](l []T, one T, noOf func(T) int) []T {
	l = append(l, one)
	slices.SortFunc(l, func(a, b T) int { return cmp.Compare(noOf(a), noOf(b)) })
	return l
}

// copied is a world of new memory, so that it may be changed and handed out.
func copied(w api.World) api.World {
	w.Overlay.Nodes = slices.Clone(w.Overlay.Nodes)
	for i := range w.Overlay.Nodes {
		n := &w.Overlay.Nodes[i]
		n.Succs = slices.Clone(n.Succs)
		n.Fingers = slices.Clone(n.Fingers)
	}
	w.Servers = slices.Clone(w.Servers)
	for i := range w.Servers {
		w.Servers[i].Table = slices.Clone(w.Servers[i].Table)
	}
	w.Hosts = slices.Clone(w.Hosts)
	for i := range w.Hosts {
		h := &w.Hosts[i]
		h.Wants = slices.Clone(h.Wants)
		h.Hints = slices.Clone(h.Hints)
		h.Inbox = slices.Clone(h.Inbox)
	}
	w.Mail.Flight = slices.Clone(w.Mail.Flight)
	return w
}
