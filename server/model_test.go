package server

import (
	"bytes"
	"cmp"
	"crypto/sha256"
	"maps"
	"math"
	"math/big"
	"math/rand"
	"slices"
	"strings"

	"posthouse/api"
)

const maxTick = 1 << 40

// place is an identifier that begins with a byte.
func place(b byte) api.Id { return api.Id{0: b, 15: 3, 31: 7} }

func filled(b byte) api.Id { return api.Id(bytes.Repeat([]byte{b}, 32)) }

func toId(a api.Id) api.Entry { return api.Entry{Kind: api.EId, Id: a} }

func toHost(n int) api.Entry { return api.Entry{Kind: api.EHost, Host: n} }

func trig(a api.Id, target api.Entry, until int) api.Trigger {
	return api.Trigger{Id: a, Target: target, Until: until}
}

func insert(a api.Id, target api.Entry, n int) api.Msg {
	return api.Msg{Kind: api.MInsert, Id: a, Target: target, N: n}
}

func ask(a api.Id, target api.Entry, nonce string) api.Msg {
	return api.Msg{Kind: api.MAsk, Id: a, Target: target, Nonce: nonce}
}

func echo(a api.Id, target api.Entry, n int, nonce string) api.Msg {
	return api.Msg{Kind: api.MEcho, Id: a, Target: target, N: n, Nonce: nonce}
}

func remove(a api.Id, target api.Entry, nonce string) api.Msg {
	return api.Msg{Kind: api.MRemove, Id: a, Target: target, Nonce: nonce}
}

func ack(a api.Id, target api.Entry) api.Msg {
	return api.Msg{Kind: api.MAck, Id: a, Target: target}
}

func data(n int, text string, l ...api.Entry) api.Msg {
	return api.Msg{Kind: api.MData, Stack: l, N: n, Data: text}
}

func push(a api.Id) api.Msg { return api.Msg{Kind: api.MPush, Id: a} }

func cache(a api.Id, no int) api.Msg { return api.Msg{Kind: api.MCache, Id: a, N: no} }

func send(to int, m api.Msg) api.Send { return api.Send{To: to, Msg: m} }

func sendBy(to int, m api.Msg, by api.Trigger) api.Send { return api.Send{To: to, Msg: m, By: by} }

// half is the first 16 bytes of the sum of some bytes, by another SHA-256.
func half(parts ...[]byte) []byte {
	sum := sha256.Sum256(bytes.Join(parts, nil))
	return sum[:16]
}

// nonceOf is chapter 3's nonce.
func nonceOf(secret string, a api.Id, host int) string {
	return string(half([]byte("nonce"), []byte(secret), a[:], []byte{byte(host)}))
}

// leads is what chapter 3 says of one that may lead to another one.
func leads(a, b api.Id) bool {
	return bytes.Equal(b[:16], half([]byte("left"), a[:16])) || bytes.Equal(a[:16], half([]byte("right"), b[:16]))
}

// leftOf is what an identifier's key leads to, with other bytes behind it; rightOf is so what it comes from.
func leftOf(a api.Id, tail byte) api.Id { return withKey(half([]byte("left"), a[:16]), tail) }

func rightOf(a api.Id, tail byte) api.Id { return withKey(half([]byte("right"), a[:16]), tail) }

func withKey(key []byte, tail byte) api.Id {
	a := filled(tail)
	copy(a[:], key)
	return a
}

// common is how many bits two identifiers begin with that are the same.
func common(a, b api.Id) int {
	x, y := new(big.Int).SetBytes(a[:]), new(big.Int).SetBytes(b[:])
	return 256 - new(big.Int).Xor(x, y).BitLen()
}

// pair is what tells two triggers apart.
type pair struct {
	id     api.Id
	target api.Entry
}

// model is a second way to a server: a trigger is a number behind its pair.
type model struct {
	no     int
	secret string
	kept   map[pair]int
}

func modelOf(s api.Server) *model {
	m := &model{no: s.No, secret: s.Secret, kept: map[pair]int{}}
	for _, x := range s.Table {
		m.kept[pair{x.Id, x.Target}] = x.Until
	}
	return m
}

func order(a, b api.Trigger) int {
	return cmp.Or(bytes.Compare(a.Id[:], b.Id[:]), cmp.Compare(a.Target.Kind, b.Target.Kind),
		bytes.Compare(a.Target.Id[:], b.Target.Id[:]), cmp.Compare(a.Target.Host, b.Target.Host))
}

func (m *model) table() []api.Trigger {
	var l []api.Trigger
	for p, until := range m.kept {
		l = append(l, trig(p.id, p.target, until))
	}
	slices.SortFunc(l, order)
	return l
}

func (m *model) server() api.Server {
	return api.Server{No: m.no, Secret: m.secret, Table: m.table()}
}

// put is whether there was room for a trigger.
func (m *model) put(x api.Trigger) bool {
	p := pair{x.Id, x.Target}
	if until, is := m.kept[p]; is {
		m.kept[p] = max(until, x.Until)
		return true
	}
	if len(m.kept) == 32 {
		return false
	}
	m.kept[p] = x.Until
	return true
}

// handle takes a message that may be and is of a kind that is taken.
func (m *model) handle(from int, x api.Msg, now int) ([]api.Send, api.Errno) {
	was := maps.Clone(m.kept)
	maps.DeleteFunc(m.kept, func(_ pair, until int) bool { return until <= now })
	if x.Kind == api.MData {
		return m.data(from, x), api.OK
	}
	sends, err := m.claim(from, x, now)
	if err != api.OK {
		m.kept = was
		return nil, err
	}
	return sends, api.OK
}

func (m *model) claim(from int, x api.Msg, now int) ([]api.Send, api.Errno) {
	isHost := x.Target.Kind == api.EHost
	nonce := nonceOf(m.secret, x.Id, x.Target.Host)
	if x.Kind == api.MInsert && isHost {
		return []api.Send{send(16+x.Target.Host, ask(x.Id, x.Target, nonce))}, api.OK
	}
	if x.Kind == api.MInsert && !leads(x.Id, x.Target.Id) || x.Kind != api.MInsert && (!isHost || x.Nonce != nonce) {
		return nil, api.ErrProof
	}
	if x.Kind == api.MRemove {
		p := pair{x.Id, x.Target}
		if _, is := m.kept[p]; !is {
			return nil, api.ErrNone
		}
		delete(m.kept, p)
		return nil, api.OK
	}
	if !m.put(trig(x.Id, x.Target, min(now+x.N, maxTick))) {
		return nil, api.ErrFull
	}
	return []api.Send{send(from, ack(x.Id, x.Target))}, api.OK
}

func (m *model) data(from int, x api.Msg) []api.Send {
	hops, first, rest := min(x.N, 64), x.Stack[0], x.Stack[1:]
	if first.Kind == api.EHost {
		return []api.Send{send(16+first.Host, data(hops, x.Data, x.Stack...))}
	}
	var sends []api.Send
	onward := func(by api.Trigger, l []api.Entry) {
		to := -1
		if l[0].Kind == api.EHost {
			to = 16 + l[0].Host
		}
		sends = append(sends, sendBy(to, data(hops-1, x.Data, l...), by))
	}
	matched := m.matched(first.Id)
	if hops > 0 {
		for _, by := range matched {
			onward(by, slices.Concat([]api.Entry{by.Target}, rest))
		}
		if len(matched) == 0 && len(rest) > 0 {
			onward(api.Trigger{}, slices.Clone(rest))
		}
	}
	if from < 16 {
		return sends
	}
	if hops > 0 && len(sends) == 0 {
		return []api.Send{send(from, push(first.Id))}
	}
	return append(sends, send(from, cache(first.Id, m.no)))
}

// matched is the triggers of the least of those that have the most bits in common with an identifier.
func (m *model) matched(a api.Id) []api.Trigger {
	most, of := 127, api.Id{}
	for _, x := range m.table() {
		if n := common(x.Id, a); n > most {
			most, of = n, x.Id
		}
	}
	return slices.DeleteFunc(m.table(), func(x api.Trigger) bool { return most < 128 || x.Id != of })
}

// sized is a table of so many triggers, of which each lasts unlike long.
func sized(n int) []api.Trigger {
	var l []api.Trigger
	for i := range n {
		l = append(l, trig(place(byte(i/3)), []api.Entry{toId(place(200)), toHost(2), toHost(7)}[i%3], 100+i))
	}
	return l
}

func rightTables() [][]api.Trigger {
	var l [][]api.Trigger
	for n := range 33 {
		l = append(l, sized(n))
	}
	return append(l, []api.Trigger{}, []api.Trigger{trig(api.Id{}, toHost(0), 0), trig(filled(255), toId(filled(255)), maxTick)})
}

func wrongEntries() []api.Entry {
	return []api.Entry{
		{}, {Host: 3}, {Id: place(1)}, {Kind: 3}, {Kind: -1}, {Kind: 257}, {Kind: math.MaxInt},
		{Kind: api.EId, Host: 1}, {Kind: api.EId, Id: place(50), Host: -1},
		{Kind: api.EHost, Id: api.Id{31: 1}}, {Kind: api.EHost, Id: place(50), Host: 3},
		toHost(-1), toHost(16), toHost(256), toHost(math.MaxInt), toHost(math.MinInt),
	}
}

func wrongTables() [][]api.Trigger {
	l := [][]api.Trigger{
		make([]api.Trigger, 1),
		sized(33),
		sized(100),
		{trig(place(50), toHost(1), -1)},
		{trig(place(50), toHost(1), maxTick+1)},
		{trig(place(50), toHost(1), 5), trig(place(50), toHost(1), 6)},
		{trig(place(50), toHost(2), 5), trig(place(50), toHost(1), 5)},
		{trig(place(50), toHost(1), 5), trig(place(50), toId(place(1)), 5)},
		{trig(place(51), toHost(1), 5), trig(place(50), toHost(1), 5)},
	}
	for _, e := range wrongEntries() {
		l = append(l, []api.Trigger{trig(place(50), e, 5)})
	}
	return l
}

// untaken are messages that may be, of the kinds that no server takes.
func untaken() []api.Msg {
	a, nonce := place(50), "0123456789abcdef"
	return []api.Msg{
		ask(a, toHost(3), nonce), ask(a, toHost(3), nonceOf("secret", a, 3)), ask(a, toId(leftOf(a, 0)), nonce),
		ack(a, toHost(3)), ack(a, toId(leftOf(a, 0))), push(a), cache(a, 3), cache(a, maxTick),
		{Kind: api.MFind, Id: a, N: 3}, {Kind: api.MFound, Id: a, N: 3}, {Kind: api.MFound},
	}
}

// takenMessages are messages that may be, of each kind that is taken, with each of their fields at its ends.
func takenMessages() []api.Msg {
	var l []api.Msg
	for _, a := range []api.Id{{}, filled(255), place(3)} {
		for _, e := range []api.Entry{toHost(0), toHost(3), toHost(15), toId(api.Id{}), toId(a), toId(leftOf(a, 0)), toId(rightOf(a, 0))} {
			for _, n := range []int{0, 1, maxTick} {
				l = append(l, insert(a, e, n))
				for _, nonce := range []string{strings.Repeat("\x00", 16), nonceOf("", a, e.Host), nonceOf("secret", a, e.Host)} {
					l = append(l, echo(a, e, n, nonce), remove(a, e, nonce))
				}
				l = append(l, data(n, "", e), data(n, strings.Repeat("x", 64), toId(a), e), data(n, "\x00", e, toId(a), toHost(3), e))
			}
		}
	}
	return l
}

// wrongMessages are messages that may not be, as just one field of one that may be is spoiled, and such of no kind.
func wrongMessages() []api.Msg {
	l := []api.Msg{{}}
	a, nonce := place(50), nonceOf("secret", place(50), 3)
	for _, m := range []api.Msg{insert(a, toHost(3), 9), echo(a, toHost(3), 9, nonce), remove(a, toHost(3), nonce), data(9, "hi", toId(a), toHost(3)), data(9, "hi", toHost(3))} {
		add := func(spoil func(m *api.Msg)) {
			x := m
			spoil(&x)
			l = append(l, x)
		}
		for _, kind := range []int{0, -1, 11, 256 + 1, 256 + 2, 1<<32 + 4, math.MaxInt, math.MinInt} {
			add(func(m *api.Msg) { m.Kind = kind })
		}
		for _, e := range wrongEntries() {
			if e != (api.Entry{}) || m.Kind != api.MData {
				add(func(m *api.Msg) { m.Target = e })
			}
			add(func(m *api.Msg) { m.Stack = []api.Entry{e} })
			add(func(m *api.Msg) { m.Stack = []api.Entry{toId(a), toHost(3), e, toHost(3)} })
		}
		for _, n := range []int{-1, -maxTick, maxTick + 1, math.MaxInt, math.MinInt} {
			add(func(m *api.Msg) { m.N = n })
		}
		for _, n := range []int{1, 15, 17, 32} {
			add(func(m *api.Msg) { m.Nonce = strings.Repeat("n", n) })
		}
		add(func(m *api.Msg) { m.Data = strings.Repeat("x", 65) })
		add(func(m *api.Msg) { m.Stack = slices.Repeat([]api.Entry{toHost(3)}, 5) })
		if m.Kind == api.MData {
			add(func(m *api.Msg) { m.Stack = nil })
			add(func(m *api.Msg) { m.Id = a })
		}
	}
	return l
}

func chanceId(chance *rand.Rand) api.Id {
	a := api.Id{0: byte(chance.Intn(3))}
	if chance.Intn(2) == 0 {
		a[16] = byte(chance.Intn(4))
	}
	return a
}

// chanceEntry is a host, an identifier, or one that is like no trigger's.
func chanceEntry(chance *rand.Rand) api.Entry {
	switch chance.Intn(5) {
	case 0:
		return toHost(chance.Intn(16))
	case 1:
		return toId(filled(byte(9 + chance.Intn(3))))
	}
	return toId(chanceId(chance))
}

// chanceMessage is a message that is taken; its nonce or link is often right.
func chanceMessage(chance *rand.Rand, secret string) api.Msg {
	a := chanceId(chance)
	target := toHost(chance.Intn(16))
	switch chance.Intn(6) {
	case 0:
		target = toId(leftOf(a, byte(chance.Intn(2))))
	case 1:
		target = toId(chanceId(chance))
		a = rightOf(target.Id, byte(chance.Intn(2)))
	case 2:
		target = toId(chanceId(chance))
	}
	nonce := nonceOf(secret, a, target.Host)
	if chance.Intn(8) == 0 {
		nonce = nonce[1:] + nonce[:1]
	}
	switch chance.Intn(6) {
	case 0, 1:
		var l []api.Entry
		for range 1 + chance.Intn(4) {
			l = append(l, chanceEntry(chance))
		}
		return data([]int{0, 1, 2, 63, 64, 65, maxTick}[chance.Intn(7)], "data"[:chance.Intn(5)], l...)
	case 2:
		return remove(a, target, nonce)
	case 3:
		return echo(a, target, chance.Intn(150), nonce)
	case 4:
		return echo(a, target, maxTick, nonce)
	}
	return insert(a, target, chance.Intn(150))
}
