package world

import (
	"posthouse/api"
	"posthouse/host"
	"posthouse/wire"
)

// newHost has a host be there that was not.
func (c *course) newHost(a api.Act) api.Errno {
	h, err := host.New(a.No, a.To)
	if err != api.OK {
		return err
	}
	if c.host(a.No) != nil {
		return api.ErrTwice
	}
	c.Hosts = placed(c.Hosts, h, hostNo)
	return api.OK
}

// want has a host want an identifier.
func (c *course) want(a api.Act) api.Errno {
	h := c.host(a.No)
	if h == nil {
		return api.ErrNone
	}
	then, err := host.Want(*h, a.Id, a.N)
	*h = then
	return err
}

// unwant has a host want an identifier no more.
func (c *course) unwant(a api.Act) api.Errno {
	h := c.host(a.No)
	if h == nil {
		return api.ErrNone
	}
	then, err := host.Unwant(*h, a.Id)
	*h = then
	return err
}

// ask has a host ask for all that it wants.
func (c *course) ask(a api.Act) api.Errno {
	h := c.host(a.No)
	if h == nil {
		return api.ErrNone
	}
	sends, err := host.Ask(*h, c.Mail.Now)
	for _, s := range sends {
		c.post(hostAddress(h.No), s)
	}
	return err
}

// send has a host send data.
func (c *course) send(a api.Act) api.Errno {
	h := c.host(a.No)
	if h == nil {
		return api.ErrNone
	}
	s, err := host.Send(*h, a.Stack, a.Data, c.Mail.Now)
	if err != api.OK {
		return err
	}
	if no := c.post(hostAddress(h.No), s); no != lost {
		c.note(api.Note{Kind: api.NSend, No: h.No, Letter: no, Data: a.Data})
	}
	return api.OK
}

// link has a host ask for a trigger from an identifier to another one.
func (c *course) link(a api.Act) api.Errno {
	h := c.host(a.No)
	if h == nil {
		return api.ErrNone
	}
	if len(a.Stack) != 1 || a.Stack[0].Kind != api.EId || a.N < 1 || a.N > api.MaxLife {
		return api.ErrArg
	}
	m := api.Msg{Kind: api.MInsert, Id: a.Id, Target: a.Stack[0], N: a.N}
	// All else of it may be; so this asks whether the entry may.
	if !wire.Right(m) {
		return api.ErrArg
	}
	c.post(hostAddress(h.No), api.Send{To: h.Gate, Msg: m})
	return api.OK
}
