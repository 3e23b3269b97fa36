package world

import (
	"slices"

	"posthouse/api"
	"posthouse/chord"
	"posthouse/ring"
	"posthouse/server"
)

// join has a server come, ahead of the one that its identifier belongs to, and be given what belongs to it then.
func (c *course) join(a api.Act) api.Errno {
	if len(a.Data) > api.MaxData || !isLast(a.Id) {
		return api.ErrArg
	}
	// Of no servers there is no owner, and the first one comes ahead of none.
	owner, alone := ring.Owner(chord.Members(c.Overlay), a.Id)
	o, err := chord.Join(c.Overlay, api.Member{No: a.No, Id: a.Id}, owner.No)
	if err != api.OK {
		return err
	}
	comer := api.Server{No: a.No, Secret: a.Data}
	if alone == api.OK {
		comer = given(comer, a.Id, c.server(owner.No), chord.Members(o))
	}
	c.Overlay = o
	c.Servers = placed(c.Servers, comer, serverNo)
	return api.OK
}

// given is a server that came at an identifier, with the triggers that the one that had them gives it. All may be, and so no step can fail.
func given(comer api.Server, id api.Id, giver *api.Server, all []api.Member) api.Server {
	ahead, _ := ring.Before(all, comer.No)
	left, gift, _ := server.Give(*giver, ahead.Id, id)
	*giver = left
	comer, _, _ = server.Hand(comer, gift)
	return comer
}

// leave has a server go, and the one that followed it take its triggers.
func (c *course) leave(a api.Act) api.Errno {
	followers, _ := ring.After(chord.Members(c.Overlay), a.No, 1)
	o, err := chord.Leave(c.Overlay, a.No)
	if err != api.OK {
		return err
	}
	gone := *c.server(a.No)
	c.drop(o, a.No)
	// One that is alone follows itself, and is gone.
	if heir := c.server(followers[0].No); heir != nil {
		*heir, _, _ = server.Hand(*heir, gone.Table)
	}
	return api.OK
}

// fail has a server be gone, with its triggers.
func (c *course) fail(a api.Act) api.Errno {
	o, err := chord.Fail(c.Overlay, a.No)
	if err != api.OK {
		return err
	}
	c.drop(o, a.No)
	return api.OK
}

// drop has a server be gone, of which an overlay knows no more.
func (c *course) drop(o api.Overlay, no int) {
	c.Overlay = o
	c.Servers = slices.DeleteFunc(c.Servers, func(s api.Server) bool { return s.No == no })
}

// round has each server look after what it knows of the others.
func (c *course) round(api.Act) api.Errno {
	o, err := chord.Round(c.Overlay)
	c.Overlay = o
	return err
}
