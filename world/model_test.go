package world

import (
	"bytes"
	"cmp"
	"crypto/sha256"
	"maps"
	"math/big"
	"reflect"
	"slices"
	"testing"

	"posthouse/api"
	"posthouse/chord"
	"posthouse/host"
	"posthouse/lookup"
	"posthouse/server"
	"posthouse/wire"
)

const (
	maxTick = 1 << 40
	maxLife = 1 << 20
)

// place is an identifier that begins with a byte; last is the last one of its key, of a server.
func place(b byte) api.Id { return api.Id{0: b, 15: 3, 31: 7} }

func last(b byte) api.Id { return withKey([]byte{0: b, 15: 0}, 255) }

func withKey(key []byte, tail byte) api.Id {
	a := api.Id(bytes.Repeat([]byte{tail}, 32))
	copy(a[:], key)
	return a
}

func at(no int, b byte) api.Member { return api.Member{No: no, Id: last(b)} }

func nobody() api.Member { return api.Member{No: -1} }

func toId(a api.Id) api.Entry { return api.Entry{Kind: api.EId, Id: a} }

func toHost(n int) api.Entry { return api.Entry{Kind: api.EHost, Host: n} }

func trig(a api.Id, target api.Entry, until int) api.Trigger {
	return api.Trigger{Id: a, Target: target, Until: until}
}

func letter(no, from, to int, m api.Msg) api.Letter {
	return api.Letter{No: no, From: from, To: to, Data: bytesOf(m)}
}

func wanted(a api.Id, life int) api.Want { return api.Want{Id: a, Life: life} }

func hinted(a api.Id, no, until int) api.Hint { return api.Hint{Id: a, No: no, Until: until} }

func insert(a api.Id, target api.Entry, n int) api.Msg {
	return api.Msg{Kind: api.MInsert, Id: a, Target: target, N: n}
}

func ask(a api.Id, target api.Entry, nonce string) api.Msg {
	return api.Msg{Kind: api.MAsk, Id: a, Target: target, Nonce: nonce}
}

func echo(a api.Id, target api.Entry, n int, nonce string) api.Msg {
	return api.Msg{Kind: api.MEcho, Id: a, Target: target, N: n, Nonce: nonce}
}

func remove(a api.Id, target api.Entry, nonce string) api.Msg {
	return api.Msg{Kind: api.MRemove, Id: a, Target: target, Nonce: nonce}
}

func ack(a api.Id, target api.Entry) api.Msg {
	return api.Msg{Kind: api.MAck, Id: a, Target: target}
}

func data(n int, text string, l ...api.Entry) api.Msg {
	return api.Msg{Kind: api.MData, Stack: l, N: n, Data: text}
}

func push(a api.Id) api.Msg { return api.Msg{Kind: api.MPush, Id: a} }

func cache(a api.Id, no int) api.Msg { return api.Msg{Kind: api.MCache, Id: a, N: no} }

// bytesOf is a message's bytes.
func bytesOf(m api.Msg) string {
	s, err := wire.Text(m)
	if err != api.OK {
		panic("no message that may be")
	}
	return s
}

// half is the first 16 bytes of the sum of some bytes, by another SHA-256.
func half(parts ...[]byte) []byte {
	sum := sha256.Sum256(bytes.Join(parts, nil))
	return sum[:16]
}

// nonceOf is chapter 3's nonce.
func nonceOf(secret string, a api.Id, host int) string {
	return string(half([]byte("nonce"), []byte(secret), a[:], []byte{byte(host)}))
}

// leftOf is what an identifier's key leads to, with other bytes behind it; rightOf is so what it comes from.
func leftOf(a api.Id, tail byte) api.Id { return withKey(half([]byte("left"), a[:16]), tail) }

func rightOf(a api.Id, tail byte) api.Id { return withKey(half([]byte("right"), a[:16]), tail) }

// settled is servers that know who follows them, and who is ahead.
func settled(l ...api.Member) api.Overlay {
	l = slices.Clone(l)
	slices.SortFunc(l, func(a, b api.Member) int { return bytes.Compare(a.Id[:], b.Id[:]) })
	var o api.Overlay
	for i, m := range l {
		n := api.Node{Self: m, Pred: nobody(), Succs: []api.Member{m}}
		if others := len(l) - 1; others > 0 {
			n.Pred = l[(i+others)%len(l)]
			n.Succs = slices.Clone(slices.Concat(l, l)[i+1:][:min(others, 4)])
		}
		o.Nodes = append(o.Nodes, n)
	}
	slices.SortFunc(o.Nodes, func(a, b api.Node) int { return cmp.Compare(a.Self.No, b.Self.No) })
	return o
}

// over is a world of an overlay: each server's secret is a word and its number, and no host is there.
func over(o api.Overlay) api.World {
	w := api.World{Overlay: o}
	for _, n := range o.Nodes {
		w.Servers = append(w.Servers, api.Server{No: n.Self.No, Secret: secretOf(n.Self.No)})
	}
	return w
}

func secretOf(no int) string { return "secret" + string(rune('a'+no)) }

// two is a world of the servers 3 and 5, at 40 and 80, and the hosts 1 and 2, which turn to 3 and 5. What begins with 50 belongs to 5, what begins with 90 to 3.
func two() api.World {
	w := over(settled(at(3, 40), at(5, 80)))
	w.Hosts = []api.Host{{No: 1, Gate: 3}, {No: 2, Gate: 5}}
	w.Mail = api.Mail{Last: 7, Now: 100}
	return w
}

// with is a world in new memory, of which something is changed.
func with(w api.World, changes ...func(w *api.World)) api.World {
	w = clone(w)
	for _, change := range changes {
		change(&w)
	}
	return w
}

// posted is a change: letters are behind all others, and the last one's number is the last one.
func posted(l ...api.Letter) func(w *api.World) {
	return func(w *api.World) {
		w.Mail.Flight = append(w.Mail.Flight, l...)
		w.Mail.Last = max(w.Mail.Last, l[len(l)-1].No)
	}
}

// keeping is a change: a server has just some triggers.
func keeping(no int, l ...api.Trigger) func(w *api.World) {
	return func(w *api.World) { serverOf(w, no).Table = sorted(l) }
}

// hosting is a change of a host.
func hosting(no int, change func(h *api.Host)) func(w *api.World) {
	return func(w *api.World) {
		change(&w.Hosts[slices.IndexFunc(w.Hosts, func(h api.Host) bool { return h.No == no })])
	}
}

func serverOf(w *api.World, no int) *api.Server {
	return &w.Servers[slices.IndexFunc(w.Servers, func(s api.Server) bool { return s.No == no })]
}

func sorted(l []api.Trigger) []api.Trigger {
	l = slices.Clone(l)
	slices.SortFunc(l, func(a, b api.Trigger) int {
		return cmp.Or(bytes.Compare(a.Id[:], b.Id[:]), cmp.Compare(a.Target.Kind, b.Target.Kind),
			bytes.Compare(a.Target.Id[:], b.Target.Id[:]), cmp.Compare(a.Target.Host, b.Target.Host))
	})
	return l
}

// clone is a world in new memory, in which no list is empty but nil.
func clone(w api.World) api.World {
	w.Overlay.Nodes = cloned(w.Overlay.Nodes)
	for i := range w.Overlay.Nodes {
		n := &w.Overlay.Nodes[i]
		n.Succs, n.Fingers = cloned(n.Succs), cloned(n.Fingers)
	}
	w.Servers = cloned(w.Servers)
	for i := range w.Servers {
		w.Servers[i].Table = cloned(w.Servers[i].Table)
	}
	w.Hosts = cloned(w.Hosts)
	for i := range w.Hosts {
		h := &w.Hosts[i]
		h.Wants, h.Hints, h.Inbox = cloned(h.Wants), cloned(h.Hints), cloned(h.Inbox)
	}
	w.Mail.Flight = cloned(w.Mail.Flight)
	return w
}

func cloned[T any](l []T) []T { return append([]T(nil), l...) }

// same tells whether two worlds are, by all that is in them.
func same(a, b api.World) bool { return reflect.DeepEqual(clone(a), clone(b)) }

func isZero(w api.World) bool { return same(w, api.World{}) }

// span is where in memory a list is, with the room behind it.
type span struct{ from, to uintptr }

// spans are those of all lists in something.
func spans(v reflect.Value) []span {
	var l []span
	switch v.Kind() {
	case reflect.Struct:
		for i := range v.NumField() {
			l = append(l, spans(v.Field(i))...)
		}
	case reflect.Slice:
		if bytes := uintptr(v.Cap()) * v.Type().Elem().Size(); bytes > 0 {
			l = append(l, span{v.Pointer(), v.Pointer() + bytes})
		}
		for i := range v.Len() {
			l = append(l, spans(v.Index(i))...)
		}
	}
	return l
}

// apart tells whether no two lists in all of some things share memory.
func apart(all ...any) bool {
	var l []span
	for _, one := range all {
		l = append(l, spans(reflect.ValueOf(one))...)
	}
	slices.SortFunc(l, func(a, b span) int { return cmp.Compare(a.from, b.from) })
	for i := range l[min(1, len(l)):] {
		if l[i].to > l[i+1].from {
			return false
		}
	}
	return true
}

// step has something happen in a world that may be, and asks that what was handed in is as it was, and what is answered is new, and may be.
func step(t *testing.T, w api.World, a api.Act) (api.World, []api.Note, api.Errno) {
	t.Helper()
	if !Right(w) {
		t.Fatalf("may not be: %+v", w)
	}
	was, stack := clone(w), slices.Clone(a.Stack)
	then, notes, err := Step(w, a)
	if !same(w, was) || !slices.Equal(a.Stack, stack) {
		t.Fatalf("%+v changes %+v to %+v", a, was, w)
	}
	if !apart(w, a, then, notes) {
		t.Fatalf("%+v of %+v shares memory", a, w)
	}
	if !Right(then) {
		t.Fatalf("%+v of %+v may not be: %+v, %d", a, w, then, err)
	}
	if err != api.OK && (!isZero(then) || len(notes) > 0) {
		t.Fatalf("%+v of %+v: beside %d there is %+v, %+v", a, w, err, then, notes)
	}
	return then, notes, err
}

// pair is what tells two triggers apart.
type pair struct {
	id     api.Id
	target api.Entry
}

// model is a second way to a world: its parts are looked up by their numbers, and a trigger is a time behind its pair.
type model struct {
	overlay   api.Overlay
	secrets   map[int]string
	tables    map[int]map[pair]int
	hosts     map[int]api.Host
	flight    []api.Letter
	last, now int
	notes     []api.Note
}

func modelOf(w api.World) *model {
	m := &model{overlay: w.Overlay, secrets: map[int]string{}, tables: map[int]map[pair]int{}, hosts: map[int]api.Host{}}
	for _, s := range w.Servers {
		m.setServer(s)
	}
	for _, h := range w.Hosts {
		m.hosts[h.No] = h
	}
	m.flight, m.last, m.now = slices.Clone(w.Mail.Flight), w.Mail.Last, w.Mail.Now
	return m
}

func (m *model) setServer(s api.Server) {
	m.secrets[s.No] = s.Secret
	m.tables[s.No] = map[pair]int{}
	for _, x := range s.Table {
		m.tables[s.No][pair{x.Id, x.Target}] = x.Until
	}
}

func (m *model) server(no int) api.Server {
	var l []api.Trigger
	for p, until := range m.tables[no] {
		l = append(l, trig(p.id, p.target, until))
	}
	return api.Server{No: no, Secret: m.secrets[no], Table: sorted(l)}
}

func (m *model) world() api.World {
	w := api.World{Overlay: m.overlay, Mail: api.Mail{Flight: m.flight, Last: m.last, Now: m.now}}
	for _, no := range slices.Sorted(maps.Keys(m.secrets)) {
		w.Servers = append(w.Servers, m.server(no))
	}
	for _, no := range slices.Sorted(maps.Keys(m.hosts)) {
		w.Hosts = append(w.Hosts, m.hosts[no])
	}
	return w
}

// far is how far it is from an identifier to another one, round the ring.
func far(a, b api.Id) *big.Int {
	way := new(big.Int).Sub(new(big.Int).SetBytes(b[:]), new(big.Int).SetBytes(a[:]))
	return way.Mod(way, new(big.Int).Lsh(big.NewInt(1), 256))
}

// nearest is the server to which the way from an identifier is the shortest; there is one.
func nearest(l []api.Member, id api.Id) api.Member {
	return slices.MinFunc(l, func(a, b api.Member) int { return far(id, a.Id).Cmp(far(id, b.Id)) })
}

// others are the servers but that of a number.
func (m *model) others(no int) []api.Member {
	return slices.DeleteFunc(chord.Members(m.overlay), func(x api.Member) bool { return x.No == no })
}

func (m *model) note(n api.Note) {
	n.At = m.now
	m.notes = append(m.notes, n)
}

// step is what chapter 18 says of a world that may be; the model is of no use behind an error.
func (m *model) step(a api.Act) api.Errno {
	_, isHost := m.hosts[a.No]
	switch a.Kind {
	case api.WJoin:
		return m.join(a)
	case api.WLeave:
		return m.leave(a.No)
	case api.WFail:
		return m.fail(a.No)
	case api.WRound:
		m.overlay, _ = chord.Round(m.overlay)
	case api.WPass:
		if a.N < 0 {
			return api.ErrArg
		}
		m.now = int(min(uint(m.now)+uint(a.N), maxTick))
	case api.WHost:
		if a.No < 0 || a.No > 15 || a.To < 0 || a.To > 15 {
			return api.ErrArg
		}
		if isHost {
			return api.ErrTwice
		}
		m.hosts[a.No] = api.Host{No: a.No, Gate: a.To}
	case api.WWant, api.WUnwant, api.WAsk, api.WSend, api.WLink:
		if !isHost {
			return api.ErrNone
		}
		return m.ofHost(a)
	case api.WBring, api.WTwice, api.WLose, api.WLast:
		if a.N < 0 || a.N >= len(m.flight) {
			return api.ErrNone
		}
		return m.ofLetter(a)
	default:
		return api.ErrArg
	}
	return api.OK
}

func (m *model) join(a api.Act) api.Errno {
	if len(a.Data) > 64 || !bytes.Equal(a.Id[16:], bytes.Repeat([]byte{255}, 16)) {
		return api.ErrArg
	}
	owner, all := nobody(), chord.Members(m.overlay)
	if len(all) > 0 {
		owner = nearest(all, a.Id)
	}
	o, err := chord.Join(m.overlay, api.Member{No: a.No, Id: a.Id}, owner.No)
	if err != api.OK {
		return err
	}
	m.overlay = o
	m.setServer(api.Server{No: a.No, Secret: a.Data})
	for p, until := range m.tables[owner.No] {
		// What was the owner's is the comer's now, if the comer is the nearest behind it.
		if nearest(append(m.others(a.No), api.Member{No: a.No, Id: a.Id}), p.id).No == a.No {
			m.tables[a.No][p] = until
			delete(m.tables[owner.No], p)
		}
	}
	return api.OK
}

func (m *model) leave(no int) api.Errno {
	left, was, all := m.server(no).Table, m.overlay, chord.Members(m.overlay)
	if err := m.fail(no); err != api.OK {
		return err
	}
	m.overlay, _ = chord.Leave(was, no)
	self := all[slices.IndexFunc(all, func(x api.Member) bool { return x.No == no })]
	if len(m.others(no)) == 0 {
		return api.OK
	}
	heir := m.tables[nearest(m.others(no), self.Id).No]
	for _, x := range left {
		p := pair{x.Id, x.Target}
		if until, is := heir[p]; is {
			heir[p] = max(until, x.Until)
		} else if len(heir) < 32 {
			heir[p] = x.Until
		}
	}
	return api.OK
}

func (m *model) fail(no int) api.Errno {
	if _, lives := m.secrets[no]; !lives {
		return api.ErrDown
	}
	m.overlay, _ = chord.Fail(m.overlay, no)
	delete(m.secrets, no)
	delete(m.tables, no)
	return api.OK
}

func (m *model) ofHost(a api.Act) (err api.Errno) {
	h, from := m.hosts[a.No], 16+a.No
	switch a.Kind {
	case api.WWant:
		m.hosts[a.No], err = host.Want(h, a.Id, a.N)
	case api.WUnwant:
		m.hosts[a.No], err = host.Unwant(h, a.Id)
	case api.WAsk:
		sends, _ := host.Ask(h, m.now)
		for _, s := range sends {
			m.post(from, s.To, s.Msg)
		}
	case api.WSend:
		s, e := host.Send(h, a.Stack, a.Data, m.now)
		if e != api.OK {
			return e
		}
		if no := m.post(from, s.To, s.Msg); no > 0 {
			m.note(api.Note{Kind: api.NSend, No: a.No, Letter: no, Data: a.Data})
		}
	case api.WLink:
		if len(a.Stack) != 1 || a.Stack[0] != toId(a.Stack[0].Id) || a.N < 1 || a.N > maxLife {
			return api.ErrArg
		}
		m.post(from, h.Gate, insert(a.Id, a.Stack[0], a.N))
	}
	return err
}

func (m *model) ofLetter(a api.Act) api.Errno {
	l := m.flight[a.N]
	switch a.Kind {
	case api.WTwice:
		if len(m.flight) == 64 {
			return api.ErrFull
		}
		m.flight = append(m.flight, l)
		return api.OK
	case api.WLast:
		m.flight = append(m.flight, l)
	}
	m.flight = append(slices.Clone(m.flight[:a.N]), m.flight[a.N+1:]...)
	if a.Kind == api.WBring {
		if why := m.bring(l); why != api.OK {
			m.note(api.Note{Kind: api.NLost, No: l.To, Was: l.No, Why: why})
		}
	}
	return api.OK
}

// post is the number of the letter as which a message goes, or 0.
func (m *model) post(from, to int, x api.Msg) int {
	if len(m.flight) >= 64 || m.last == maxTick {
		m.note(api.Note{Kind: api.NLost, No: from, Why: api.ErrFull})
		return 0
	}
	m.last++
	m.flight = append(m.flight, letter(m.last, from, to, x))
	return m.last
}

// postOn posts what a server sends of a letter.
func (m *model) postOn(l api.Letter, from, to int, x api.Msg, by api.Trigger) {
	if no := m.post(from, to, x); no > 0 && x.Kind == api.MData {
		m.note(api.Note{Kind: api.NOn, No: l.To, Was: l.No, Letter: no, Trigger: by})
	}
}

// found is the server that another one finds. From one that lives there is always a way, as each that is asked is nearer.
func (m *model) found(from int, id api.Id) int {
	_, owner, err := lookup.Walk(m.overlay, from, id, 16)
	if err != api.OK {
		panic("no way")
	}
	return owner.No
}

func (m *model) bring(l api.Letter) api.Errno {
	x, err := wire.Parse(l.Data)
	if err != api.OK {
		return api.ErrSyntax
	}
	if h, is := m.hosts[l.To-16]; is {
		return m.atHost(h, l, x)
	}
	if _, lives := m.secrets[l.To]; !lives {
		return api.ErrDown
	}
	by := x.Id
	if x.Kind == api.MData {
		by = x.Stack[0].Id
	}
	isSent := x.Kind == api.MInsert || x.Kind == api.MEcho || x.Kind == api.MRemove || x.Kind == api.MData && x.Stack[0].Kind == api.EId
	if isSent && m.found(l.To, by) != l.To {
		m.postOn(l, l.From, m.found(l.To, by), x, api.Trigger{})
		return api.OK
	}
	return m.atServer(l, x)
}

func (m *model) atServer(l api.Letter, x api.Msg) api.Errno {
	s, sends, err := server.Handle(m.server(l.To), l.From, x, m.now)
	if err != api.OK {
		return err
	}
	m.setServer(s)
	for i, y := range sends {
		if i == 0 && y.Msg.Kind == api.MAck {
			m.note(api.Note{Kind: api.NAdmit, No: l.To, Trigger: trig(x.Id, x.Target, min(m.now+x.N, maxTick))})
		}
		to := y.To
		if to == -1 {
			to = m.found(l.To, y.Msg.Stack[0].Id)
		}
		m.postOn(l, l.To, to, y.Msg, y.By)
	}
	return api.OK
}

func (m *model) atHost(h api.Host, l api.Letter, x api.Msg) api.Errno {
	then, sends, err := host.Handle(h, l.From, x, m.now)
	if err != api.OK {
		return err
	}
	m.hosts[h.No] = then
	if x.Kind == api.MData {
		m.note(api.Note{Kind: api.NGet, No: h.No, Was: l.No, Data: x.Data})
	}
	for _, s := range sends {
		m.post(l.To, s.To, s.Msg)
	}
	return api.OK
}
