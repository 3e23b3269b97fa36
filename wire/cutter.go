package wire

import (
	"strings"

	"posthouse/api"
	"posthouse/stack"
)

// cutter takes a text apart, from its beginning on. Its methods panic where the text is no message's, so that each of them can answer just what it took.
type cutter struct {
	rest string
}

// take takes off n bytes.
func (c *cutter) take(n int) string {
	if len(c.rest) < n {
		panic(api.ErrSyntax)
	}
	taken := c.rest[:n]
	c.rest = c.rest[n:]
	return taken
}

func (c *cutter) kind() int {
	kind := int(c.take(1)[0])
	if _, is := fieldsOf(kind); !is {
		panic(api.ErrSyntax)
	}
	return kind
}

func (c *cutter) id() api.Id { return api.Id([]byte(c.take(idBytes))) }

func (c *cutter) entries() []api.Entry {
	l, size, err := stack.Read(c.rest)
	if err != api.OK {
		panic(api.ErrSyntax)
	}
	c.take(size)
	return l
}

// target takes off a stack of one entry alone.
func (c *cutter) target() api.Entry {
	l := c.entries()
	if len(l) != 1 {
		panic(api.ErrSyntax)
	}
	return l[0]
}

func (c *cutter) number() int {
	n := uint64(0)
	for i, b := range []byte(c.take(numberBytes)) {
		n |= uint64(b) << (8 * i)
	}
	if n > api.MaxTick {
		panic(api.ErrSyntax)
	}
	return int(n)
}

// text takes off n bytes as a text of its own: the message is not to keep the whole of what it was cut from.
func (c *cutter) text(n int) string { return strings.Clone(c.take(n)) }

func (c *cutter) data() string {
	if len(c.rest) > api.MaxData {
		panic(api.ErrSyntax)
	}
	return c.text(len(c.rest))
}

func (c *cutter) end() {
	if c.rest != "" {
		panic(api.ErrSyntax)
	}
}
