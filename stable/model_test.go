package stable

import (
	"bytes"
	"cmp"
	"crypto/sha256"
	"math/big"
	"reflect"
	"slices"

	"posthouse/api"
	"posthouse/wire"
	"posthouse/world"
)

const (
	maxTick = 1 << 40
	maxLife = 1 << 20
)

// place is an identifier that begins with a byte; last is the last one of its key, of a server.
func place(b byte) api.Id { return api.Id{0: b, 15: 3, 31: 7} }

func last(b byte) api.Id { return withKey([]byte{0: b, 15: 0}, 255) }

func withKey(key []byte, tail byte) api.Id {
	a := api.Id(bytes.Repeat([]byte{tail}, 32))
	copy(a[:], key)
	return a
}

func at(no int, b byte) api.Member { return api.Member{No: no, Id: last(b)} }

func nobody() api.Member { return api.Member{No: -1} }

func toId(a api.Id) api.Entry { return api.Entry{Kind: api.EId, Id: a} }

func toHost(n int) api.Entry { return api.Entry{Kind: api.EHost, Host: n} }

func trig(a api.Id, target api.Entry, until int) api.Trigger {
	return api.Trigger{Id: a, Target: target, Until: until}
}

func letter(no, from, to int, m api.Msg) api.Letter {
	return api.Letter{No: no, From: from, To: to, Data: bytesOf(m)}
}

func wanted(a api.Id, life int) api.Want { return api.Want{Id: a, Life: life} }

func hinted(a api.Id, no, until int) api.Hint { return api.Hint{Id: a, No: no, Until: until} }

func insert(a api.Id, target api.Entry, n int) api.Msg {
	return api.Msg{Kind: api.MInsert, Id: a, Target: target, N: n}
}

func ask(a api.Id, target api.Entry, nonce string) api.Msg {
	return api.Msg{Kind: api.MAsk, Id: a, Target: target, Nonce: nonce}
}

func echo(a api.Id, target api.Entry, n int, nonce string) api.Msg {
	return api.Msg{Kind: api.MEcho, Id: a, Target: target, N: n, Nonce: nonce}
}

func remove(a api.Id, target api.Entry, nonce string) api.Msg {
	return api.Msg{Kind: api.MRemove, Id: a, Target: target, Nonce: nonce}
}

func ack(a api.Id, target api.Entry) api.Msg {
	return api.Msg{Kind: api.MAck, Id: a, Target: target}
}

func data(n int, text string, l ...api.Entry) api.Msg {
	return api.Msg{Kind: api.MData, Stack: l, N: n, Data: text}
}

func push(a api.Id) api.Msg { return api.Msg{Kind: api.MPush, Id: a} }

func cache(a api.Id, no int) api.Msg { return api.Msg{Kind: api.MCache, Id: a, N: no} }

// bytesOf is a message's bytes.
func bytesOf(m api.Msg) string {
	s, err := wire.Text(m)
	if err != api.OK {
		panic("no message that may be")
	}
	return s
}

// half is the first 16 bytes of the sum of some bytes, by another SHA-256.
func half(parts ...[]byte) []byte {
	sum := sha256.Sum256(bytes.Join(parts, nil))
	return sum[:16]
}

// nonceOf is chapter 3's nonce.
func nonceOf(secret string, a api.Id, host int) string {
	return string(half([]byte("nonce"), []byte(secret), a[:], []byte{byte(host)}))
}

// leftOf is what an identifier's key leads to, with other bytes behind it; rightOf is so what it comes from.
func leftOf(a api.Id, tail byte) api.Id { return withKey(half([]byte("left"), a[:16]), tail) }

func rightOf(a api.Id, tail byte) api.Id { return withKey(half([]byte("right"), a[:16]), tail) }

// settled is servers that know who follows them, and who is ahead.
func settled(l ...api.Member) api.Overlay {
	l = slices.Clone(l)
	slices.SortFunc(l, func(a, b api.Member) int { return bytes.Compare(a.Id[:], b.Id[:]) })
	var o api.Overlay
	for i, m := range l {
		n := api.Node{Self: m, Pred: nobody(), Succs: []api.Member{m}}
		if others := len(l) - 1; others > 0 {
			n.Pred = l[(i+others)%len(l)]
			n.Succs = slices.Clone(slices.Concat(l, l)[i+1:][:min(others, 4)])
		}
		o.Nodes = append(o.Nodes, n)
	}
	slices.SortFunc(o.Nodes, func(a, b api.Node) int { return cmp.Compare(a.Self.No, b.Self.No) })
	return o
}

// over is a world of an overlay: each server's secret is a word and its number, and no host is there.
func over(o api.Overlay) api.World {
	w := api.World{Overlay: o}
	for _, n := range o.Nodes {
		w.Servers = append(w.Servers, api.Server{No: n.Self.No, Secret: secretOf(n.Self.No)})
	}
	return w
}

func secretOf(no int) string { return "secret" + string(rune('a'+no)) }

// two is a world of the servers 3 and 5, at 40 and 80, and the hosts 1 and 2, which turn to 3 and 5. What begins with 50 belongs to 5, what begins with 90 to 3.
func two() api.World {
	w := over(settled(at(3, 40), at(5, 80)))
	w.Hosts = []api.Host{{No: 1, Gate: 3}, {No: 2, Gate: 5}}
	w.Mail = api.Mail{Last: 7, Now: 100}
	return w
}

// with is a world in new memory, of which something is changed.
func with(w api.World, changes ...func(w *api.World)) api.World {
	w = clone(w)
	for _, change := range changes {
		change(&w)
	}
	return w
}

// posted is a change: letters are behind all others, and the last one's number is the last one.
func posted(l ...api.Letter) func(w *api.World) {
	return func(w *api.World) {
		w.Mail.Flight = append(w.Mail.Flight, l...)
		w.Mail.Last = max(w.Mail.Last, l[len(l)-1].No)
	}
}

// keeping is a change: a server has just some triggers.
func keeping(no int, l ...api.Trigger) func(w *api.World) {
	return func(w *api.World) { serverOf(w, no).Table = sorted(l) }
}

// hosting is a change of a host.
func hosting(no int, change func(h *api.Host)) func(w *api.World) {
	return func(w *api.World) {
		change(&w.Hosts[slices.IndexFunc(w.Hosts, func(h api.Host) bool { return h.No == no })])
	}
}

func serverOf(w *api.World, no int) *api.Server {
	return &w.Servers[slices.IndexFunc(w.Servers, func(s api.Server) bool { return s.No == no })]
}

func sorted(l []api.Trigger) []api.Trigger {
	l = slices.Clone(l)
	slices.SortFunc(l, func(a, b api.Trigger) int {
		return cmp.Or(bytes.Compare(a.Id[:], b.Id[:]), cmp.Compare(a.Target.Kind, b.Target.Kind),
			bytes.Compare(a.Target.Id[:], b.Target.Id[:]), cmp.Compare(a.Target.Host, b.Target.Host))
	})
	return l
}

// clone is a world in new memory, in which no list is empty but nil.
func clone(w api.World) api.World {
	w.Overlay.Nodes = cloned(w.Overlay.Nodes)
	for i := range w.Overlay.Nodes {
		n := &w.Overlay.Nodes[i]
		n.Succs, n.Fingers = cloned(n.Succs), cloned(n.Fingers)
	}
	w.Servers = cloned(w.Servers)
	for i := range w.Servers {
		w.Servers[i].Table = cloned(w.Servers[i].Table)
	}
	w.Hosts = cloned(w.Hosts)
	for i := range w.Hosts {
		h := &w.Hosts[i]
		h.Wants, h.Hints, h.Inbox = cloned(h.Wants), cloned(h.Hints), cloned(h.Inbox)
	}
	w.Mail.Flight = cloned(w.Mail.Flight)
	return w
}

func cloned[T any](l []T) []T { return append([]T(nil), l...) }

// same tells whether two worlds are, by all that is in them.
func same(a, b api.World) bool { return reflect.DeepEqual(clone(a), clone(b)) }

func isZero(w api.World) bool { return same(w, api.World{}) }

// span is where in memory a list is, with the room behind it.
type span struct{ from, to uintptr }

// spans are those of all lists in something.
func spans(v reflect.Value) []span {
	var l []span
	switch v.Kind() {
	case reflect.Struct:
		for i := range v.NumField() {
			l = append(l, spans(v.Field(i))...)
		}
	case reflect.Slice:
		if bytes := uintptr(v.Cap()) * v.Type().Elem().Size(); bytes > 0 {
			l = append(l, span{v.Pointer(), v.Pointer() + bytes})
		}
		for i := range v.Len() {
			l = append(l, spans(v.Index(i))...)
		}
	}
	return l
}

// apart tells whether no two lists in all of some things share memory.
func apart(all ...any) bool {
	var l []span
	for _, one := range all {
		l = append(l, spans(reflect.ValueOf(one))...)
	}
	slices.SortFunc(l, func(a, b span) int { return cmp.Compare(a.from, b.from) })
	for i := range l[min(1, len(l)):] {
		if l[i].to > l[i+1].from {
			return false
		}
	}
	return true
}

// pair is what tells two triggers apart.
type pair struct {
	id     api.Id
	target api.Entry
}

// alive are the triggers in a world that live, each with how long it does the longest.
func alive(w api.World) map[pair]int {
	all := map[pair]int{}
	for _, s := range w.Servers {
		for _, x := range s.Table {
			if p := (pair{x.Id, x.Target}); x.Until > w.Mail.Now {
				all[p] = max(all[p], x.Until)
			}
		}
	}
	return all
}

// listed are triggers, each behind the one that is the less.
func listed(all map[pair]int) []api.Trigger {
	var l []api.Trigger
	for p, until := range all {
		l = append(l, trig(p.id, p.target, until))
	}
	return sorted(l)
}

// modelTriggers is what chapter 19 says of the triggers of a world that may be.
func modelTriggers(w api.World) ([]api.Trigger, api.Errno) {
	l := listed(alive(w))
	if len(l) > 32 {
		return nil, api.ErrFull
	}
	return l, api.OK
}

// far is how far it is from an identifier to another one, round the ring.
func far(a, b api.Id) *big.Int {
	way := new(big.Int).Sub(new(big.Int).SetBytes(b[:]), new(big.Int).SetBytes(a[:]))
	return way.Mod(way, new(big.Int).Lsh(big.NewInt(1), 256))
}

// ownerOf is the number of the server to which the way from an identifier is the shortest; there is one.
func ownerOf(o api.Overlay, id api.Id) int {
	return slices.MinFunc(o.Nodes, func(a, b api.Node) int { return far(id, a.Self.Id).Cmp(far(id, b.Self.Id)) }).Self.No
}

// modelIs is whether a world that may be is stable: its nodes, but for fingers, are those of servers that know all, and each trigger is its owner's.
func modelIs(w api.World) bool {
	var all []api.Member
	for _, n := range w.Overlay.Nodes {
		all = append(all, n.Self)
	}
	for i, n := range settled(all...).Nodes {
		is := w.Overlay.Nodes[i]
		if is.Pred.No != n.Pred.No || !slices.Equal(is.Succs, n.Succs) {
			return false
		}
	}
	for _, s := range w.Servers {
		for p := range alive(api.World{Servers: []api.Server{s}, Mail: w.Mail}) {
			if ownerOf(w.Overlay, p.id) != s.No {
				return false
			}
		}
	}
	return true
}

// modelDrain is what chapter 19 says of a world that may be, and how many letters were brought.
func modelDrain(w api.World, order ...int) (api.World, []api.Note, int, api.Errno) {
	if len(order) == 0 {
		order = []int{0}
	}
	var all []api.Note
	for brought := 0; ; brought++ {
		many := len(w.Mail.Flight)
		if many == 0 {
			return w, all, brought, api.OK
		}
		if brought == 1000 {
			return api.World{}, nil, brought, api.ErrFull
		}
		next := new(big.Int).Mod(big.NewInt(int64(order[brought%len(order)])), big.NewInt(int64(many)))
		then, notes, err := world.Step(w, api.Act{Kind: api.WBring, N: int(next.Int64())})
		if err != api.OK {
			panic("a letter is not there")
		}
		w, all = then, append(all, notes...)
	}
}
