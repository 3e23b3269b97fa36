package server

import (
	"posthouse/api"
	"posthouse/guard"
	"posthouse/table"
)

// judge has a server do what is judged of a message about a trigger.
func judge(s api.Server, from int, m api.Msg, now int) (api.Server, []api.Send, api.Errno) {
	// Of a message and a secret that may be, all is judged.
	what, asks, _ := guard.Judge(s.Secret, m)
	switch what {
	case api.GAsk:
		return s, []api.Send{{To: hostAddress(m.Target.Host), Msg: asks}}, api.OK
	case api.GIn:
		return admit(s, from, m, now)
	case api.GOut:
		t, err := table.Drop(s.Table, m.Id, m.Target)
		s.Table = t
		return s, nil, err
	}
	return s, nil, api.ErrProof
}

// admit has a server put the trigger that a message is about into its table, and say so to whom the message was from.
func admit(s api.Server, from int, m api.Msg, now int) (api.Server, []api.Send, api.Errno) {
	in, _ := guard.Trigger(m, now)
	t, err := table.Put(s.Table, in)
	s.Table = t
	return s, []api.Send{{To: from, Msg: api.Msg{Kind: api.MAck, Id: m.Id, Target: m.Target}}}, err
}
