package host

import (
	"bytes"
	"math"
	"math/rand"
	"slices"
	"strings"

	"posthouse/api"
)

const (
	maxTick = 1 << 40
	maxLife = 1 << 20
	aNonce  = "0123456789abcdef"
)

// id is an identifier that begins with a byte.
func id(b byte) api.Id { return api.Id{0: b, 15: 3, 31: 7} }

func filled(b byte) api.Id { return api.Id(bytes.Repeat([]byte{b}, 32)) }

func toId(a api.Id) api.Entry { return api.Entry{Kind: api.EId, Id: a} }

func toHost(n int) api.Entry { return api.Entry{Kind: api.EHost, Host: n} }

func insert(a api.Id, target api.Entry, n int) api.Msg {
	return api.Msg{Kind: api.MInsert, Id: a, Target: target, N: n}
}

func ask(a api.Id, target api.Entry, nonce string) api.Msg {
	return api.Msg{Kind: api.MAsk, Id: a, Target: target, Nonce: nonce}
}

func echo(a api.Id, target api.Entry, n int, nonce string) api.Msg {
	return api.Msg{Kind: api.MEcho, Id: a, Target: target, N: n, Nonce: nonce}
}

func ack(a api.Id, target api.Entry) api.Msg {
	return api.Msg{Kind: api.MAck, Id: a, Target: target}
}

func data(n int, text string, l ...api.Entry) api.Msg {
	return api.Msg{Kind: api.MData, Stack: l, N: n, Data: text}
}

func push(a api.Id) api.Msg { return api.Msg{Kind: api.MPush, Id: a} }

func cache(a api.Id, no int) api.Msg { return api.Msg{Kind: api.MCache, Id: a, N: no} }

func send(to int, m api.Msg) api.Send { return api.Send{To: to, Msg: m} }

func wanted(a api.Id, life int) api.Want { return api.Want{Id: a, Life: life} }

func hinted(a api.Id, no, until int) api.Hint { return api.Hint{Id: a, No: no, Until: until} }

// wants are so many, each of an unlike life; hints are so many, each of an unlike server and time.
func wants(n int) []api.Want {
	var l []api.Want
	for i := range n {
		l = append(l, api.Want{Id: id(byte(i)), Life: 10 + i})
	}
	return l
}

func hints(n int) []api.Hint {
	var l []api.Hint
	for i := range n {
		l = append(l, api.Hint{Id: id(byte(i)), No: i, Until: 100 + i})
	}
	return l
}

func texts(n int) []string {
	var l []string
	for i := range n {
		l = append(l, strings.Repeat("x", 2*i))
	}
	return l
}

// sized is host 3 with so many of each.
func sized(w, h, i int) api.Host {
	return api.Host{No: 3, Gate: 12, Wants: wants(w), Hints: hints(h), Inbox: texts(i)}
}

func rightHosts() []api.Host {
	var l []api.Host
	for n := range 16 {
		l = append(l, api.Host{No: n}, api.Host{Gate: n}, api.Host{No: n, Gate: 15 - n, Wants: wants(3)})
	}
	for n := range 9 {
		l = append(l, sized(n, 0, 0), sized(0, n, 0), sized(n, 8-n, n), sized(8, n, 32))
	}
	for n := range 33 {
		l = append(l, sized(1, 2, n))
	}
	for n := range 65 {
		l = append(l, api.Host{Inbox: []string{strings.Repeat("\xff", n), strings.Repeat("\x00", n)}})
	}
	for _, life := range []int{1, 2, 1000, maxLife - 1, maxLife} {
		l = append(l, api.Host{Wants: []api.Want{{Life: life}}}, api.Host{Wants: []api.Want{{Life: 1}, {Id: filled(255), Life: life}}})
	}
	for _, until := range []int{0, 1, maxLife + 1, maxTick - 1, maxTick} {
		l = append(l, api.Host{Hints: []api.Hint{{No: 15, Until: until}}}, api.Host{Hints: []api.Hint{{Id: filled(255)}, {Until: until}}})
	}
	// An identifier may be wanted and hinted, and two hints may be of one server.
	return append(l, api.Host{Wants: []api.Want{}, Hints: []api.Hint{}, Inbox: []string{}},
		api.Host{Wants: []api.Want{wanted(id(1), 5), wanted(id(2), 5)}, Hints: []api.Hint{hinted(id(2), 4, 9), hinted(id(1), 4, 9)}, Inbox: []string{"", ""}},
		api.Host{Wants: []api.Want{wanted(api.Id{31: 1}, 5), wanted(api.Id{31: 2}, 5), wanted(api.Id{0: 1, 31: 1}, 5)}})
}

func wrongHosts() []api.Host {
	var l []api.Host
	for _, n := range []int{-1, -2, 16, 17, 256, math.MaxInt, math.MinInt} {
		l = append(l, api.Host{No: n}, api.Host{Gate: n}, api.Host{No: n, Gate: 12, Wants: wants(2), Hints: hints(2)}, api.Host{No: 3, Gate: n, Wants: wants(2)})
	}
	for _, life := range []int{0, -1, maxLife + 1, maxTick, math.MaxInt, math.MinInt} {
		l = append(l, api.Host{Wants: []api.Want{wanted(id(1), life)}}, api.Host{Wants: append(wants(7), wanted(id(90), life))})
	}
	for _, n := range []int{-1, 16, 256, math.MaxInt, math.MinInt} {
		l = append(l, api.Host{Hints: []api.Hint{hinted(id(1), n, 5)}}, api.Host{Hints: append(hints(7), api.Hint{Id: id(90), No: n})})
	}
	for _, until := range []int{-1, maxTick + 1, math.MaxInt, math.MinInt} {
		l = append(l, api.Host{Hints: []api.Hint{hinted(id(1), 3, until)}}, api.Host{Hints: append(hints(7), api.Hint{Id: id(90), Until: until})})
	}
	for i := range 7 {
		w, h := wants(8), hints(8)
		w[7].Id, h[7].Id = w[i].Id, h[i].Id
		l = append(l, api.Host{Wants: w}, api.Host{Hints: h}, api.Host{No: 3, Wants: w[i:], Hints: hints(2)}, api.Host{No: 3, Wants: wants(2), Hints: h[i:]})
	}
	for _, n := range []int{65, 66, 128, 320, 5000} {
		l = append(l, api.Host{Inbox: []string{strings.Repeat("x", n)}}, api.Host{Inbox: append(texts(31), strings.Repeat("\x00", n))})
	}
	l = append(l, api.Host{Inbox: []string{"", strings.Repeat("é", 33)}}, api.Host{Inbox: make([]string, 33)}, api.Host{Inbox: make([]string, 1000)})
	for _, n := range []int{9, 10, 100} {
		l = append(l, sized(n, 2, 2), sized(2, n, 2))
	}
	return append(l, api.Host{Wants: make([]api.Want, 1)}, api.Host{Hints: make([]api.Hint, 2)})
}

func wrongEntries() []api.Entry {
	return []api.Entry{
		{}, {Host: 3}, {Id: id(1)}, {Kind: 3}, {Kind: -1}, {Kind: 257}, {Kind: math.MaxInt},
		{Kind: api.EId, Host: 1}, {Kind: api.EId, Id: id(50), Host: -1},
		{Kind: api.EHost, Id: api.Id{31: 1}}, {Kind: api.EHost, Id: id(50), Host: 3},
		toHost(-1), toHost(16), toHost(256), toHost(math.MaxInt), toHost(math.MinInt),
	}
}

func wrongStacks() [][]api.Entry {
	l := [][]api.Entry{nil, {}, slices.Repeat([]api.Entry{toHost(3)}, 5), slices.Repeat([]api.Entry{toId(id(1))}, 100)}
	for _, e := range wrongEntries() {
		l = append(l, []api.Entry{e}, []api.Entry{toId(id(1)), e}, []api.Entry{toHost(3), toId(id(1)), toHost(3), e})
	}
	return l
}

// takenMessages are messages that host 3 takes, if it wants what begins with 1 and has room.
func takenMessages() []api.Msg {
	return []api.Msg{
		data(9, "hi", toHost(3)), data(0, "", toHost(3), toId(id(1)), toHost(5), toHost(3)), ask(id(1), toHost(3), aNonce),
		ack(id(1), toHost(3)), ack(id(1), toId(id(2))), cache(id(1), 7), cache(id(90), 0), push(id(1)), push(id(90)),
	}
}

// untaken are messages that may be, of the kinds that no host takes.
func untaken() []api.Msg {
	a := id(1)
	return []api.Msg{
		insert(a, toHost(3), 9), insert(a, toId(a), 9), echo(a, toHost(3), 11, aNonce), echo(a, toId(a), 9, aNonce),
		{Kind: api.MRemove, Id: a, Target: toHost(3), Nonce: aNonce}, {Kind: api.MFind, Id: a, N: 3}, {Kind: api.MFound, Id: a, N: 3}, {Kind: api.MFound},
	}
}

// wrongMessages are messages that may not be, as just one field of one that may be is spoiled, and such of no kind.
func wrongMessages() []api.Msg {
	l := []api.Msg{{}}
	for _, m := range takenMessages() {
		add := func(spoil func(m *api.Msg)) {
			x := m
			spoil(&x)
			l = append(l, x)
		}
		for _, kind := range []int{0, -1, 11, 256 + 1, 256 + 7, 1<<32 + 8, math.MaxInt, math.MinInt} {
			add(func(m *api.Msg) { m.Kind = kind })
		}
		for _, e := range wrongEntries() {
			if e != (api.Entry{}) || m.Target != (api.Entry{}) {
				add(func(m *api.Msg) { m.Target = e })
			}
			add(func(m *api.Msg) { m.Stack = []api.Entry{e} })
			add(func(m *api.Msg) { m.Stack = []api.Entry{toHost(3), toHost(3), e, toHost(3)} })
		}
		for _, n := range []int{-1, -maxTick, maxTick + 1, math.MaxInt, math.MinInt} {
			add(func(m *api.Msg) { m.N = n })
		}
		for _, n := range []int{1, 15, 17, 32} {
			add(func(m *api.Msg) { m.Nonce = strings.Repeat("n", n) })
		}
		add(func(m *api.Msg) { m.Data = strings.Repeat("x", 65) })
		add(func(m *api.Msg) { m.Stack = slices.Repeat([]api.Entry{toHost(3)}, 5) })
		if m.Kind == api.MData {
			add(func(m *api.Msg) { m.Stack = nil })
			add(func(m *api.Msg) { m.Id = id(1) })
			continue
		}
		add(func(m *api.Msg) { m.Stack = []api.Entry{toHost(3)} })
		add(func(m *api.Msg) { m.Data = "x" })
	}
	return l
}

// kept is what a model keeps of an identifier: when it came, and two numbers.
type kept struct {
	came, a, b int
}

// model is a second way to a host: its rows are maps, in the order of when each thing came.
type model struct {
	no, gate, came int
	wants, hints   map[api.Id]kept
	inbox          []string
}

func modelOf(h api.Host) *model {
	m := &model{no: h.No, gate: h.Gate, wants: map[api.Id]kept{}, hints: map[api.Id]kept{}}
	for _, x := range h.Wants {
		m.put(m.wants, x.Id, x.Life, 0)
	}
	for _, x := range h.Hints {
		m.put(m.hints, x.Id, x.No, x.Until)
	}
	m.inbox = append(m.inbox, h.Inbox...)
	return m
}

func (m *model) put(row map[api.Id]kept, a api.Id, x, y int) {
	m.came++
	row[a] = kept{m.came, x, y}
}

func sorted(row map[api.Id]kept) []api.Id {
	var l []api.Id
	for a := range row {
		l = append(l, a)
	}
	slices.SortFunc(l, func(a, b api.Id) int { return row[a].came - row[b].came })
	return l
}

func (m *model) host() api.Host {
	h := api.Host{No: m.no, Gate: m.gate, Inbox: slices.Clone(m.inbox)}
	for _, a := range sorted(m.wants) {
		h.Wants = append(h.Wants, api.Want{Id: a, Life: m.wants[a].a})
	}
	for _, a := range sorted(m.hints) {
		h.Hints = append(h.Hints, api.Hint{Id: a, No: m.hints[a].a, Until: m.hints[a].b})
	}
	return h
}

func (m *model) want(a api.Id, life int) api.Errno {
	_, is := m.wants[a]
	switch {
	case life < 1 || life > 1048576:
		return api.ErrArg
	case is:
		return api.ErrTwice
	case len(m.wants) == 8:
		return api.ErrFull
	}
	m.put(m.wants, a, life, 0)
	return api.OK
}

func (m *model) unwant(a api.Id) api.Errno {
	if _, is := m.wants[a]; !is {
		return api.ErrNone
	}
	delete(m.wants, a)
	return api.OK
}

func (m *model) turnsTo(a api.Id, now int) int {
	if x, is := m.hints[a]; is && now < x.b {
		return x.a
	}
	return m.gate
}

func (m *model) ask(now int) []api.Send {
	var l []api.Send
	for _, a := range sorted(m.wants) {
		l = append(l, send(m.turnsTo(a, now), insert(a, toHost(m.no), m.wants[a].a)))
	}
	return l
}

func (m *model) send(l []api.Entry, text string, now int) api.Send {
	if l[0].Kind == api.EHost {
		return send(m.gate, data(64, text, l...))
	}
	return send(m.turnsTo(l[0].Id, now), data(64, text, l...))
}

// handle takes a message that may be.
func (m *model) handle(from int, x api.Msg, now int) ([]api.Send, api.Errno) {
	w, isWanted := m.wants[x.Id]
	isOurs := x.Target == toHost(m.no)
	switch x.Kind {
	case api.MData:
		if x.Stack[0] != toHost(m.no) {
			return nil, api.ErrArg
		}
		if len(m.inbox) == 32 {
			return nil, api.ErrFull
		}
		m.inbox = append(m.inbox, x.Data)
		return nil, api.OK
	case api.MAsk:
		if isOurs && isWanted {
			return []api.Send{send(from, echo(x.Id, x.Target, w.a, x.Nonce))}, api.OK
		}
		if isOurs {
			return nil, api.ErrNone
		}
	case api.MAck:
		if isWanted {
			return nil, api.OK
		}
		return nil, api.ErrNone
	case api.MCache:
		if x.N < 16 {
			if _, is := m.hints[x.Id]; !is && len(m.hints) == 8 {
				delete(m.hints, sorted(m.hints)[0])
			}
			m.put(m.hints, x.Id, x.N, min(now+1000, 1099511627776))
			return nil, api.OK
		}
	case api.MPush:
		delete(m.hints, x.Id)
		return nil, api.OK
	}
	return nil, api.ErrArg
}

func chanceId(chance *rand.Rand) api.Id {
	return api.Id{0: byte(chance.Intn(4)), 31: byte(chance.Intn(3))}
}

func chanceHost(chance *rand.Rand) api.Host {
	m := modelOf(api.Host{No: chance.Intn(16), Gate: chance.Intn(16)})
	for range chance.Intn(9) {
		m.put(m.wants, chanceId(chance), 1+chance.Intn(maxLife), 0)
	}
	for range chance.Intn(9) {
		m.put(m.hints, chanceId(chance), chance.Intn(16), chance.Intn(2000))
	}
	for range chance.Intn(33) {
		m.inbox = append(m.inbox, "inbox"[chance.Intn(6):])
	}
	return m.host()
}

// chanceEntry is an identifier, or a host, that is often the one of that number.
func chanceEntry(chance *rand.Rand, no int) api.Entry {
	switch chance.Intn(8) {
	case 0:
		return toHost(chance.Intn(16))
	case 1:
		return toId(chanceId(chance))
	}
	return toHost(no)
}

func chanceStack(chance *rand.Rand, no int) []api.Entry {
	var l []api.Entry
	for range 1 + chance.Intn(4) {
		l = append(l, chanceEntry(chance, no))
	}
	return l
}

func chanceMessage(chance *rand.Rand, no int) api.Msg {
	a := chanceId(chance)
	switch chance.Intn(8) {
	case 0:
		return data(chance.Intn(70), "data"[:chance.Intn(5)], chanceStack(chance, no)...)
	case 1, 2:
		return ask(a, chanceEntry(chance, no), aNonce)
	case 3:
		return ack(a, chanceEntry(chance, no))
	case 4, 5:
		return cache(a, chance.Intn(18))
	case 6:
		return push(a)
	}
	l := untaken()
	return l[chance.Intn(len(l))]
}
