package host

import (
	"slices"

	"posthouse/api"
)

const (
	maxInbox = 32
	// believed is how long a hint is believed.
	believed = 1000
)

// inner is a host as it is worked on: in memory of its own, with its rows as things.
type inner struct {
	no, gate int
	wants    []want
	hints    []hint
	inbox    []string
}

func open(h api.Host) inner {
	in := inner{no: h.No, gate: h.Gate, inbox: slices.Clone(h.Inbox)}
	for _, w := range h.Wants {
		in.wants = append(in.wants, want{named{w.Id}, w.Life})
	}
	for _, x := range h.Hints {
		in.hints = append(in.hints, hint{named{x.Id}, x.No, x.Until})
	}
	return in
}

// closed is the host again, of which open made this.
func (in inner) closed() api.Host {
	h := api.Host{No: in.no, Gate: in.gate, Inbox: in.inbox}
	for _, w := range in.wants {
		h.Wants = append(h.Wants, api.Want{Id: w.id(), Life: w.life})
	}
	for _, x := range in.hints {
		h.Hints = append(h.Hints, api.Hint{Id: x.id(), No: x.no, Until: x.until})
	}
	return h
}

// right tells whether the host may be.
func (in inner) right() bool {
	isLong := func(text string) bool { return len(text) > api.MaxData }
	return isHost(in.no) && isServer(in.gate) && rowMayBe(in.wants) && rowMayBe(in.hints) &&
		len(in.inbox) <= maxInbox && !slices.ContainsFunc(in.inbox, isLong)
}

// entry is the host, as an entry.
func (in inner) entry() api.Entry { return api.Entry{Kind: api.EHost, Host: in.no} }

// turnsTo is the server that the host turns to for an identifier.
func (in inner) turnsTo(id api.Id, now int) int {
	at := place(in.hints, id)
	if at >= 0 && in.hints[at].until > now {
		return in.hints[at].no
	}
	return in.gate
}

// take has the host take a message that may be, from an address: what it sends.
func (in *inner) take(from int, m api.Msg, now int) ([]api.Send, api.Errno) {
	switch m.Kind {
	case api.MData:
		return nil, in.keep(m)
	case api.MAsk:
		return in.echo(from, m)
	case api.MAck:
		return nil, in.heed(m)
	case api.MCache:
		return nil, in.learn(m, now)
	case api.MPush:
		in.hints = without(in.hints, m.Id)
		return nil, api.OK
	}
	return nil, api.ErrArg
}

// keep puts the data of a message to the host behind what came.
func (in *inner) keep(m api.Msg) api.Errno {
	if m.Stack[0] != in.entry() {
		return api.ErrArg
	}
	if len(in.inbox) == maxInbox {
		return api.ErrFull
	}
	in.inbox = append(in.inbox, m.Data)
	return api.OK
}

// echo is the answer to who asks whether the host wants an identifier.
func (in *inner) echo(from int, m api.Msg) ([]api.Send, api.Errno) {
	if m.Target != in.entry() {
		return nil, api.ErrArg
	}
	at := place(in.wants, m.Id)
	if at < 0 {
		return nil, api.ErrNone
	}
	answer := api.Msg{Kind: api.MEcho, Id: m.Id, Target: m.Target, N: in.wants[at].life, Nonce: m.Nonce}
	return []api.Send{{To: from, Msg: answer}}, api.OK
}

// heed tells whether the host had to do with what a server says it took.
func (in *inner) heed(m api.Msg) api.Errno {
	if place(in.wants, m.Id) < 0 {
		return api.ErrNone
	}
	return api.OK
}

// learn puts the hint that a message tells behind all others; the oldest one makes room.
func (in *inner) learn(m api.Msg, now int) api.Errno {
	if !isServer(m.N) {
		return api.ErrArg
	}
	in.hints = without(in.hints, m.Id)
	if len(in.hints) == maxRow {
		in.hints = in.hints[1:]
	}
	in.hints = append(in.hints, hint{named{m.Id}, m.N, min(now+believed, api.MaxTick)})
	return api.OK
}
