package server

import (
	"slices"

	"posthouse/api"
	"posthouse/rewrite"
)

// toOwner is in an address's place, where a message goes to whom its first identifier belongs to.
const toOwner = -1

// sendOn is what a server sends of a message with data from an address.
func sendOn(s api.Server, from int, p parcel) []api.Send {
	packet := api.Packet{Stack: p.msg.Stack, Hops: min(p.msg.N, api.MaxTtl), Data: p.msg.Data}
	// Of a table and a packet that may be, something always becomes.
	outs, _ := rewrite.Step(s.Table, packet)
	id, isSentBy := p.sentBy()
	tells := from >= hostAddress(0)
	var sends []api.Send
	for _, x := range outs {
		switch {
		case x.Kind == api.OHost:
			sends = append(sends, api.Send{To: hostAddress(x.Host), Msg: dataOf(x.Packet)})
		case x.Kind == api.OOn:
			sends = append(sends, api.Send{To: toward(x.Packet.Stack[0]), Msg: dataOf(x.Packet), By: x.By})
		case x.Why == api.ErrNone && tells:
			sends = append(sends, api.Send{To: from, Msg: api.Msg{Kind: api.MPush, Id: id}})
		}
	}
	if tells && isSentBy && !slices.ContainsFunc(sends, isPush) {
		sends = append(sends, api.Send{To: from, Msg: api.Msg{Kind: api.MCache, Id: id, N: s.No}})
	}
	return sends
}

// dataOf is the message of a packet.
func dataOf(p api.Packet) api.Msg {
	return api.Msg{Kind: api.MData, Stack: p.Stack, N: p.Hops, Data: p.Data}
}

// toward is the address that a packet with this entry first goes on to.
func toward(first api.Entry) int {
	if first.Kind == api.EHost {
		return hostAddress(first.Host)
	}
	return toOwner
}

func isPush(s api.Send) bool { return s.Msg.Kind == api.MPush }
