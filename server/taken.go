package server

import "posthouse/api"

// taken is what a message is to a server.
type taken interface {
	// sentBy is the identifier that it is sent by, if there is one.
	sentBy() (api.Id, bool)
}

// claim is a message about a trigger, parcel one with data; of any other one a server takes nothing.
type (
	claim  struct{ msg api.Msg }
	parcel struct{ msg api.Msg }
	other  struct{}
)

func (c claim) sentBy() (api.Id, bool) { return c.msg.Id, true }

func (p parcel) sentBy() (api.Id, bool) {
	first := p.msg.Stack[0]
	return first.Id, first.Kind == api.EId
}

func (other) sentBy() (api.Id, bool) { return api.Id{}, false }

// read is what a message that may be is.
func read(m api.Msg) taken {
	switch m.Kind {
	case api.MInsert, api.MEcho, api.MRemove:
		return claim{m}
	case api.MData:
		return parcel{m}
	}
	return other{}
}

// take has a server, of which all triggers last, take what a message is.
func take(s api.Server, from int, x taken, now int) (api.Server, []api.Send, api.Errno) {
	switch x := x.(type) {
	case claim:
		return judge(s, from, x.msg, now)
	case parcel:
		return s, sendOn(s, from, x), api.OK
	}
	return api.Server{}, nil, api.ErrArg
}
