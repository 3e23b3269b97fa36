package world

import (
	"posthouse/api"
	"posthouse/guard"
	"posthouse/host"
	"posthouse/lookup"
	"posthouse/mail"
	"posthouse/server"
	"posthouse/wire"
)

const (
	// toOwner is whom a message is sent to that goes to whom its identifier belongs to.
	toOwner = -1
	// lost is the number of no letter.
	lost = 0
)

// pass has time pass.
func (c *course) pass(a api.Act) api.Errno { return c.kept(mail.Pass(c.Mail, a.N)) }

// twice has a letter be on its way once more.
func (c *course) twice(a api.Act) api.Errno { return c.kept(mail.Twice(c.Mail, a.N)) }

// lose has a letter be gone.
func (c *course) lose(a api.Act) api.Errno { return c.kept(mail.Lose(c.Mail, a.N)) }

// last has a letter be behind all others.
func (c *course) last(a api.Act) api.Errno { return c.kept(mail.Last(c.Mail, a.N)) }

// kept has the mail be as it is handed in.
func (c *course) kept(m api.Mail, err api.Errno) api.Errno {
	c.Mail = m
	return err
}

// bring has a letter come to whom it is to.
func (c *course) bring(a api.Act) api.Errno {
	left, l, err := mail.Take(c.Mail, a.N)
	if err != api.OK {
		return err
	}
	c.Mail = left
	m, why := wire.Parse(l.Data)
	if why == api.OK {
		why = c.take(l, m)
	}
	if why != api.OK {
		c.note(api.Note{Kind: api.NLost, No: l.To, Was: l.No, Why: why})
	}
	return api.OK
}

// take has whom a letter is to take its message, or tells why it is lost.
func (c *course) take(l api.Letter, m api.Msg) api.Errno {
	if l.To >= hostAddress(0) {
		return c.takeAtHost(l, m)
	}
	if c.server(l.To) == nil {
		return api.ErrDown
	}
	id, byNone := server.About(m)
	if byNone != api.OK {
		return c.takeAtServer(l, m)
	}
	owner, why := c.owner(l.To, id)
	if why != api.OK {
		return why
	}
	if owner != l.To {
		c.goOn(l, l.From, api.Send{To: owner, Msg: m})
		return api.OK
	}
	return c.takeAtServer(l, m)
}

// takeAtServer has a server that lives take a message itself.
func (c *course) takeAtServer(l api.Letter, m api.Msg) api.Errno {
	s := c.server(l.To)
	then, sends, why := server.Handle(*s, l.From, m, c.Mail.Now)
	if why != api.OK {
		return why
	}
	*s = then
	if len(sends) > 0 && sends[0].Msg.Kind == api.MAck {
		// It can't fail: the message was just taken for what it is about.
		t, _ := guard.Trigger(m, c.Mail.Now)
		c.note(api.Note{Kind: api.NAdmit, No: s.No, Trigger: t})
	}
	for _, x := range sends {
		c.goOn(l, s.No, x)
	}
	return api.OK
}

// takeAtHost has a host take a message.
func (c *course) takeAtHost(l api.Letter, m api.Msg) api.Errno {
	h := c.host(l.To - hostAddress(0))
	if h == nil {
		return api.ErrDown
	}
	then, sends, why := host.Handle(*h, l.From, m, c.Mail.Now)
	if why != api.OK {
		return why
	}
	*h = then
	if m.Kind == api.MData {
		c.note(api.Note{Kind: api.NGet, No: h.No, Was: l.No, Data: m.Data})
	}
	for _, x := range sends {
		c.post(l.To, x)
	}
	return api.OK
}

// goOn posts from an address what a server sends as a letter came to it, and notes as what that goes on.
func (c *course) goOn(l api.Letter, from int, s api.Send) {
	if no := c.post(from, s); no != lost && s.Msg.Kind == api.MData {
		c.note(api.Note{Kind: api.NOn, No: l.To, Was: l.No, Letter: no, Trigger: s.By})
	}
}

// post has a message be on its way from an address: its letter's number, or the note that it is lost.
func (c *course) post(from int, s api.Send) int {
	no, why := c.posted(from, s)
	if why != api.OK {
		c.note(api.Note{Kind: api.NLost, No: from, Why: why})
	}
	return no
}

// posted is the number of the letter that a message is on its way as, or why it is none.
func (c *course) posted(from int, s api.Send) (int, api.Errno) {
	to, why := c.goal(from, s)
	if why != api.OK {
		return lost, why
	}
	// It can't fail: whatever is sent may be.
	text, _ := wire.Text(s.Msg)
	m, no, why := mail.Post(c.Mail, from, to, text)
	if why != api.OK {
		return lost, why
	}
	c.Mail = m
	return no, api.OK
}

// goal is the address that a message from another one goes to.
func (c *course) goal(from int, s api.Send) (int, api.Errno) {
	if s.To != toOwner {
		return s.To, api.OK
	}
	// It can't fail: only by an identifier is a message sent so.
	id, _ := server.About(s.Msg)
	return c.owner(from, id)
}

// owner is the server that one that lives finds for an identifier.
func (c *course) owner(from int, id api.Id) (int, api.Errno) {
	_, m, why := lookup.Walk(c.Overlay, from, id, api.MaxHops)
	return m.No, why
}
