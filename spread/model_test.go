package spread

import (
	"bytes"
	"math/rand"
	"slices"
	"strings"

	"posthouse/api"
)

// enough is where the model stops to count: far above all that is told.
const enough = 1 << 50

// model is a second way to where a packet comes to: by what becomes of each stack with so many hops, once each.
type model struct {
	t    []api.Trigger
	seen map[state]tally
}

type state struct {
	stack [4]api.Entry
	depth int
	hops  int
}

type tally struct {
	hosts            [16]int
	lost, hops, work int
}

func (a *tally) add(b tally) {
	for i := range a.hosts {
		a.hosts[i] = min(a.hosts[i]+b.hosts[i], enough)
	}
	a.lost, a.hops, a.work = min(a.lost+b.lost, enough), min(a.hops+b.hops, enough), min(a.work+b.work, enough)
}

// delivered is Deliver's answer for a table and a packet that may be.
func delivered(t []api.Trigger, p api.Packet) (api.Spread, api.Errno) {
	m := model{t: t, seen: map[state]tally{}}
	sum := m.tally(p.Stack, p.Hops)
	if sum.work > 1000 {
		return api.Spread{}, api.ErrFull
	}
	var hosts []int
	for host, n := range sum.hosts {
		for range n {
			hosts = append(hosts, host)
		}
	}
	return api.Spread{Hosts: hosts, Lost: sum.lost, Hops: sum.hops, Work: sum.work}, api.OK
}

func (m model) tally(stack []api.Entry, hops int) tally {
	at := state{depth: len(stack), hops: hops}
	copy(at.stack[:], stack)
	if sum, ok := m.seen[at]; ok {
		return sum
	}
	sum := tally{work: 1}
	first, rest := stack[0], stack[1:]
	matched := m.likest(first.Id)
	switch {
	case first.Kind == api.EHost:
		sum.hosts[first.Host] = 1
	case hops == 0:
		sum.hops = 1
	case len(matched) > 0:
		for _, x := range matched {
			sum.add(m.tally(append([]api.Entry{x.Target}, rest...), hops-1))
		}
	case len(rest) > 0:
		sum.add(m.tally(rest, hops-1))
	default:
		sum.lost = 1
	}
	m.seen[at] = sum
	return sum
}

// common counts two identifiers' bits from the first one on that are alike, one by one.
func common(a, b api.Id) int {
	for i := range 256 {
		if (a[i/8]^b[i/8])>>(7-i%8)&1 > 0 {
			return i
		}
	}
	return 256
}

// likest is the triggers of the likest identifier: of the first one in the table that has the most bits in common.
func (m model) likest(a api.Id) []api.Trigger {
	best := 127
	var l []api.Trigger
	for _, x := range m.t {
		switch n := common(x.Id, a); {
		case n > best:
			best, l = n, []api.Trigger{x}
		case n == best && len(l) > 0 && l[0].Id == x.Id:
			l = append(l, x)
		}
	}
	return l
}

// leadsBack tells whether some row of triggers to identifiers comes back, by their first 16 bytes: a second way to proof.Acyclic, by a closure of what is reached.
func leadsBack(t []api.Trigger) bool {
	type key [16]byte
	of := func(a api.Id) key { return key(a[:16]) }
	reached := map[[2]key]bool{}
	for _, x := range t {
		if x.Target.Kind == api.EId {
			reached[[2]key{of(x.Id), of(x.Target.Id)}] = true
		}
	}
	for grown := true; grown; {
		grown = false
		var more [][2]key
		for a := range reached {
			for b := range reached {
				if c := [2]key{a[0], b[1]}; a[1] == b[0] && !reached[c] {
					more = append(more, c)
				}
			}
		}
		for _, c := range more {
			reached[c], grown = true, true
		}
	}
	for a := range reached {
		if a[0] == a[1] {
			return true
		}
	}
	return false
}

// place is an identifier that begins with a byte.
func place(b byte) api.Id { return api.Id{0: b, 15: 3, 31: 7} }

func toId(a api.Id) api.Entry { return api.Entry{Kind: api.EId, Id: a} }

func toHost(n int) api.Entry { return api.Entry{Kind: api.EHost, Host: n} }

func trig(a api.Id, target api.Entry) api.Trigger {
	return api.Trigger{Id: a, Target: target, Until: 5}
}

func of(hops int, l ...api.Entry) api.Packet { return api.Packet{Stack: l, Hops: hops, Data: "hi"} }

// ordered is a table of triggers: each identifier and target once, in a table's order.
func ordered(l ...api.Trigger) []api.Trigger {
	order := func(a, b api.Trigger) int {
		key := func(x api.Trigger) []byte {
			return slices.Concat(x.Id[:], []byte{byte(x.Target.Kind)}, x.Target.Id[:], []byte{byte(x.Target.Host)})
		}
		return bytes.Compare(key(a), key(b))
	}
	slices.SortStableFunc(l, order)
	return slices.CompactFunc(l, func(a, b api.Trigger) bool { return order(a, b) == 0 })
}

// chanceId is one of so many identifiers, but for bits at and behind the 128th, of which few are unlike.
func chanceId(chance *rand.Rand, from, places int) api.Id {
	a := place(byte(from + chance.Intn(places)))
	switch chance.Intn(6) {
	case 0:
		a[16+chance.Intn(16)] ^= 1 << chance.Intn(8)
	case 1:
		a[16] ^= 128
	}
	return a
}

func chanceEntry(chance *rand.Rand, from, places int) api.Entry {
	if places == 0 || chance.Intn(3) == 0 {
		return toHost(chance.Intn(16))
	}
	return toId(chanceId(chance, from, places))
}

// chanceTable is a table of at most so many triggers; of forward ones, those to identifiers lead to greater first bytes alone.
func chanceTable(chance *rand.Rand, most, places int, forward bool) []api.Trigger {
	var l []api.Trigger
	for range chance.Intn(most + 1) {
		a := chanceId(chance, 0, places)
		from := 0
		if forward {
			from = int(a[0]) + 1
		}
		x := trig(a, chanceEntry(chance, from, places+1-from))
		x.Until = chance.Intn(100)
		l = append(l, x)
	}
	return ordered(l...)
}

func chancePacket(chance *rand.Rand, places int) api.Packet {
	p := api.Packet{Hops: chance.Intn(65), Data: strings.Repeat("d", chance.Intn(65))}
	if chance.Intn(3) == 0 {
		p.Hops = chance.Intn(6)
	}
	for range 1 + chance.Intn(4) {
		e := toId(chanceId(chance, 0, places+1))
		if chance.Intn(8) == 0 {
			e = toHost(chance.Intn(16))
		}
		p.Stack = append(p.Stack, e)
	}
	return p
}
