package world

import (
	"bytes"
	"maps"
	"math"
	"math/rand"
	"slices"
	"strings"
	"testing"

	"posthouse/api"
	"posthouse/mail"
	"posthouse/wire"
)

// dice are what a run's acts are made of, by chance.
type dice struct {
	*rand.Rand
	ids   []api.Id
	eager int
}

// rolled are dice of identifiers, some of which lead to others, and some of which are like others.
func rolled(seed int64) dice {
	d := dice{Rand: rand.New(rand.NewSource(seed)), eager: int(seed % 5)}
	for _, b := range []byte{3, 120, 200} {
		a := place(b)
		like := a
		like[20] = 9
		d.ids = append(d.ids, a, like, leftOf(a, 1), leftOf(leftOf(a, 1), 2), rightOf(a, 3))
	}
	return d
}

func (d dice) id() api.Id { return d.ids[d.Intn(len(d.ids))] }

// one is of some numbers, most often one of the first.
func (d dice) one(l ...int) int { return l[min(d.Intn(len(l)), d.Intn(len(l)))] }

func (d dice) host() int { return d.one(0, 1, 2, 3, 2, 1, 0, 15, 16, -1) }

func (d dice) life() int {
	return d.one(300, 20, maxLife, 1, 5, 60, 0, maxLife+1, -1, math.MaxInt)
}

func (d dice) text(most int) string { return strings.Repeat("x", d.Intn(most)) }

func (d dice) entry() api.Entry {
	switch d.Intn(12) {
	case 0:
		return wrongEntries()[d.Intn(len(wrongEntries()))]
	case 1, 2, 3:
		return toHost(d.Intn(4))
	}
	return toId(d.id())
}

func (d dice) stack() []api.Entry {
	l := []api.Entry{d.entry()}
	for d.Intn(3) == 0 {
		l = append(l, d.entry())
	}
	return l
}

// server is a number, most often of one that lives.
func (d dice) server(w api.World) int {
	if len(w.Servers) == 0 || d.Intn(6) == 0 {
		return d.Intn(18) - 1
	}
	return w.Servers[d.Intn(len(w.Servers))].No
}

// act is one by chance: the more eager a run, the more letters are brought.
func (d dice) act(w api.World) api.Act {
	a := api.Act{Kind: d.Intn(18), No: d.host(), To: d.server(w), N: d.life(), Id: d.id(), Stack: d.stack(), Data: d.text(66)}
	if d.Intn(5) < d.eager && len(w.Mail.Flight) > 3 {
		a.Kind = api.WBring
	}
	switch a.Kind {
	case api.WJoin:
		a.No, a.Id = d.Intn(9), last(byte(30*d.Intn(9)+10))
		a.Id[31] -= byte(d.one(0, 0, 0, 0, 0, 1))
	case api.WLeave, api.WFail:
		a.No = d.server(w)
		if len(w.Servers) < 2+d.Intn(5) || d.Intn(3) > 0 {
			a.Kind = api.WRound
		}
	case api.WUnwant:
		if i := slices.IndexFunc(w.Hosts, func(h api.Host) bool { return h.No == a.No }); i >= 0 && len(w.Hosts[i].Wants) > 3 {
			a.Id = w.Hosts[i].Wants[d.Intn(4)].Id
		}
	case api.WSend:
		for _, x := range w.Servers {
			if len(x.Table) > 0 && d.Intn(2) == 0 {
				a.Stack[0] = toId(x.Table[d.Intn(len(x.Table))].Id)
			}
		}
	case api.WPass:
		a.N = d.one(1, 3, 20, 0, 900, -1)
	case api.WBring, api.WTwice, api.WLose, api.WLast:
		a.N = d.Intn(len(w.Mail.Flight)+2) - d.one(0, 0, 0, 0, 0, 0, 1)
	case api.WLink:
		if d.Intn(2) == 0 {
			a.Stack = []api.Entry{toId(leftOf(a.Id, byte(d.Intn(3))))}
		}
	}
	return a
}

// strange is a letter that no act posts: from anyone to anyone, of messages that claim what was not asked, and of none.
func (d dice) strange(w api.World) (from, to int, text string) {
	from, to = d.Intn(32), d.Intn(32)
	if d.Intn(2) == 0 {
		to = max(0, min(15, d.server(w)))
	}
	a, target := d.id(), toHost(d.Intn(4))
	nonce := nonceOf(d.secret(w), a, target.Host)
	if d.Intn(4) == 0 {
		target = toId(d.id())
	}
	m := []api.Msg{
		insert(a, target, 200), echo(a, target, 200, nonce), remove(a, target, nonce), ask(a, target, nonce), ack(a, target), push(a), cache(a, d.Intn(20)),
		{Kind: api.MFind, Id: a}, {Kind: api.MFound, Id: a}, data(d.Intn(4), "strange", toId(a)), data(d.Intn(70), "strange", toId(a), target),
	}[d.Intn(11)]
	text, _ = wire.Text(m)
	return from, to, text[d.one(0, 0, 0, 0, 1):]
}

// secret is that of a server, or one that is none's.
func (d dice) secret(w api.World) string {
	if len(w.Servers) == 0 {
		return "none"
	}
	return w.Servers[d.Intn(len(w.Servers))].Secret
}

// triggers are all that are in a world's tables, each with how long it lives the longest.
func triggers(w api.World) map[pair]int {
	all := map[pair]int{}
	for _, s := range w.Servers {
		for _, x := range s.Table {
			p := pair{x.Id, x.Target}
			all[p] = max(all[p], x.Until)
		}
	}
	return all
}

// mustBeAdmitted asks that each trigger in a world was there, or is noted as admitted; and that only by a link, or an echo of what was asked, one is.
func mustBeAdmitted(t *testing.T, was, is api.World, a api.Act, notes []api.Note) {
	t.Helper()
	old := triggers(was)
	for _, n := range notes {
		if n.Kind != api.NAdmit {
			continue
		}
		p := pair{n.Trigger.Id, n.Trigger.Target}
		old[p] = max(old[p], n.Trigger.Until)
		m, _ := wire.Parse(was.Mail.Flight[a.N].Data)
		isLink := m.Kind == api.MInsert && (bytes.Equal(m.Target.Id[:16], half([]byte("left"), m.Id[:16])) || bytes.Equal(m.Id[:16], half([]byte("right"), m.Target.Id[:16])))
		isEcho := m.Kind == api.MEcho && m.Nonce == nonceOf(serverOf(&was, n.No).Secret, m.Id, m.Target.Host)
		if a.Kind != api.WBring || !isLink && !isEcho || m.Target.Kind == api.EHost != isEcho || m.Id != p.id || m.Target != p.target {
			t.Fatalf("%+v is admitted by %+v", n, m)
		}
	}
	for p, until := range triggers(is) {
		if long, is := old[p]; !is || until > long {
			t.Fatalf("%+v has %+v until %d, by %+v", a, p, until, notes)
		}
	}
}

// mustRefuseAll asks that a letter that is lost changes nothing but that it is gone.
func mustRefuseAll(t *testing.T, was, is api.World, a api.Act, notes []api.Note) {
	t.Helper()
	if a.Kind != api.WBring || len(notes) != 1 || notes[0].Kind != api.NLost || notes[0].Was == 0 {
		return
	}
	want := with(was, func(w *api.World) { w.Mail.Flight = slices.Delete(w.Mail.Flight, a.N, a.N+1) })
	if !same(is, want) {
		t.Fatalf("what is lost by %d changes %+v to %+v", notes[0].Why, was, is)
	}
}

// TestRunsByChance asks that each act does what the model says of it.
func TestRunsByChance(t *testing.T) {
	type outcome struct {
		kind int
		err  api.Errno
	}
	did, noted, why := map[outcome]int{}, map[int]int{}, map[api.Errno]int{}
	forwarded, byTrigger, given := 0, 0, 0
	for seed := range int64(100) {
		d := rolled(seed)
		w := api.World{}
		for no := range d.Intn(4) {
			w, _, _ = Step(w, api.Act{Kind: api.WJoin, No: no, Id: last(byte(60*no + 10)), Data: secretOf(no)})
			w, _, _ = Step(w, api.Act{Kind: api.WHost, No: no, To: d.Intn(no + 1)})
		}
		if d.Intn(8) == 0 {
			w.Mail.Last = maxTick - 150
		}
		for range 400 {
			if d.Intn(12) == 0 {
				from, to, text := d.strange(w)
				if m, _, err := mail.Post(w.Mail, from, to, text); err == api.OK {
					w.Mail = m
				}
			}
			a := d.act(w)
			m := modelOf(clone(w))
			err := m.step(a)
			then, notes, got := step(t, w, a)
			did[outcome{a.Kind, got}]++
			if got != err {
				t.Fatalf("%+v of %+v: %d, want %d", a, w, got, err)
			}
			if err != api.OK {
				continue
			}
			if !same(then, m.world()) || !slices.Equal(notes, m.notes) {
				t.Fatalf("%+v of %+v: %+v, %+v, want %+v, %+v", a, w, then, notes, m.world(), m.notes)
			}
			mustBeAdmitted(t, w, then, a, notes)
			mustRefuseAll(t, w, then, a, notes)
			for _, n := range notes {
				noted[n.Kind]++
				why[n.Why]++
				if n.Kind == api.NOn && n.Trigger == unlike {
					forwarded++
				} else if n.Kind == api.NOn {
					byTrigger++
				}
			}
			if a.Kind == api.WJoin && len(serverOf(&then, a.No).Table) > 0 {
				given++
			}
			w = then
		}
	}
	for kind := 1; kind <= 15; kind++ {
		if did[outcome{kind, api.OK}] < 100 {
			t.Errorf("kind %d is done %d times", kind, did[outcome{kind, api.OK}])
		}
	}
	for _, o := range []outcome{
		{0, api.ErrArg}, {16, api.ErrArg}, {api.WJoin, api.ErrArg}, {api.WJoin, api.ErrTwice}, {api.WLeave, api.ErrDown}, {api.WFail, api.ErrDown}, {api.WPass, api.ErrArg},
		{api.WHost, api.ErrArg}, {api.WHost, api.ErrTwice}, {api.WWant, api.ErrArg}, {api.WWant, api.ErrTwice}, {api.WWant, api.ErrNone}, {api.WUnwant, api.ErrNone},
		{api.WAsk, api.ErrNone}, {api.WSend, api.ErrArg}, {api.WSend, api.ErrNone}, {api.WLink, api.ErrNone}, {api.WLink, api.ErrArg},
		{api.WBring, api.ErrNone}, {api.WTwice, api.ErrNone}, {api.WLose, api.ErrNone}, {api.WLast, api.ErrNone},
	} {
		if did[o] < 10 {
			t.Errorf("%+v is told %d times", o, did[o])
		}
	}
	for kind := 1; kind <= 5; kind++ {
		if noted[kind] < 100 {
			t.Errorf("notes: %v", noted)
		}
	}
	for _, err := range []api.Errno{api.ErrSyntax, api.ErrDown, api.ErrProof, api.ErrNone, api.ErrFull, api.ErrArg} {
		if why[err] < 20 {
			t.Errorf("%d lost by %d, of %v", why[err], err, slices.Sorted(maps.Keys(why)))
		}
	}
	if forwarded < 200 || byTrigger < 100 || given < 20 {
		t.Errorf("forwarded %d, by a trigger %d, given %d", forwarded, byTrigger, given)
	}
}
