package stable

import (
	"math"
	"math/rand"
	"slices"
	"testing"

	"posthouse/api"
	"posthouse/chord"
	"posthouse/spread"
	"posthouse/wire"
	"posthouse/world"
)

// dice are what worlds are made of, by chance.
type dice struct {
	*rand.Rand
	ids   []api.Id
	links int
}

// rolled are dice of identifiers, some of which lead to others, and some of which are like others.
func rolled(seed int64) dice {
	d := dice{Rand: rand.New(rand.NewSource(seed))}
	d.links = d.Intn(4)
	for _, b := range d.Perm(256)[:2] {
		a := place(byte(b))
		like := a
		like[16+d.Intn(15)] ^= byte(1 + d.Intn(255))
		d.ids = append(d.ids, a, like, leftOf(a, 1), rightOf(a, 3))
	}
	return d
}

func (d dice) id() api.Id { return d.ids[d.Intn(len(d.ids))] }

func (d dice) target() api.Entry {
	if d.Intn(6) < d.links {
		return toId(d.id())
	}
	return toHost(d.Intn(4))
}

// stack is mostly of identifiers, of which some are not wanted.
func (d dice) stack() []api.Entry {
	var l []api.Entry
	for range 1 + min(d.Intn(4), d.Intn(4)) {
		e := toId(d.id())
		if d.Intn(6) == 0 {
			e = toHost(d.Intn(4))
		}
		l = append(l, e)
	}
	return l
}

// order is of numbers of all sizes.
func (d dice) order() []int {
	var l []int
	for range d.Intn(6) {
		l = append(l, []int{d.Intn(5), d.Intn(70), -d.Intn(70), d.Int(), -d.Int(), math.MinInt, math.MaxInt}[d.Intn(7)])
	}
	return l
}

// trigger lives, or does not: the time is 100.
func (d dice) trigger() api.Trigger {
	return trig(d.id(), d.target(), []int{101, 5000, maxTick, 150, 100, 7, 101}[d.Intn(7)])
}

// put has a trigger be in a server's table, if there is room.
func put(w *api.World, no int, x api.Trigger) {
	s := serverOf(w, no)
	is := func(y api.Trigger) bool { return y.Id == x.Id && y.Target == x.Target }
	if len(s.Table) < 32 && !slices.ContainsFunc(s.Table, is) {
		s.Table = sorted(append(s.Table, x))
	}
}

// stable is a world that is so: with triggers at their owners, and strays whose time is over.
func (d dice) stable(triggers int) api.World {
	var l []api.Member
	for i, no := range d.Perm(16)[:1+d.Intn(7)] {
		l = append(l, at(no, byte(36*i+d.Intn(36))))
	}
	w := over(settled(l...))
	w.Mail = api.Mail{Now: 100, Last: d.Intn(9)}
	for range d.Intn(6) {
		a, b := l[d.Intn(len(l))].No, l[d.Intn(len(l))].No
		if o, err := chord.Point(w.Overlay, a, b); err == api.OK {
			w.Overlay = o
		}
	}
	for no := range 4 {
		h := api.Host{No: no, Gate: l[d.Intn(len(l))].No}
		for _, i := range d.Perm(len(d.ids))[:d.Intn(5)] {
			h.Wants = append(h.Wants, wanted(d.ids[i], 1+d.Intn(200)))
		}
		for _, i := range d.Perm(len(d.ids))[:d.Intn(4)] {
			// What is hinted may be wrong.
			h.Hints = append(h.Hints, hinted(d.ids[i], l[d.Intn(len(l))].No, 90+d.Intn(20)))
		}
		w.Hosts = append(w.Hosts, h)
	}
	for range triggers {
		x := d.trigger()
		put(&w, ownerOf(w.Overlay, x.Id), x)
	}
	for range d.Intn(4) {
		put(&w, l[d.Intn(len(l))].No, trig(d.id(), d.target(), d.Intn(101)))
	}
	return w
}

// message is one by chance that a world's servers or hosts may heed.
func (d dice) message(w api.World) api.Msg {
	a, target := d.id(), d.target()
	if d.Intn(2) == 0 && target.Kind == api.EId {
		target = toId(leftOf(a, byte(d.Intn(3))))
	}
	nonce := nonceOf(w.Servers[d.Intn(len(w.Servers))].Secret, a, target.Host)
	if target.Kind == api.EHost && d.Intn(3) > 0 {
		nonce = nonceOf(serverOf(&w, ownerOf(w.Overlay, a)).Secret, a, target.Host)
	}
	switch d.Intn(12) {
	case 0, 1, 2:
		return insert(a, target, 1+d.Intn(300))
	case 3, 4, 5:
		return echo(a, target, 1+d.Intn(300), nonce)
	case 6:
		return remove(a, target, nonce)
	case 7:
		return ask(a, target, nonce)
	case 8:
		return []api.Msg{ack(a, target), push(a), cache(a, w.Servers[d.Intn(len(w.Servers))].No)}[d.Intn(3)]
	}
	return data(d.Intn(20), "hi", d.stack()...)
}

// busy is a world in which letters are on their way, from anyone to anyone.
func (d dice) busy(w api.World, letters int) api.World {
	for range letters {
		to := w.Servers[d.Intn(len(w.Servers))].No
		if d.Intn(8) == 0 {
			to = d.Intn(32)
		}
		text, _ := wire.Text(d.message(w))
		w.Mail.Last++
		w.Mail.Flight = append(w.Mail.Flight, api.Letter{No: w.Mail.Last, From: d.Intn(32), To: to, Data: text})
	}
	return w
}

// spoiled is a world of which something is, by chance, not where it belongs.
func (d dice) spoiled(w api.World) api.World {
	no := w.Servers[d.Intn(len(w.Servers))].No
	switch d.Intn(5) {
	case 0:
		put(&w, no, d.trigger())
	case 1:
		w.Overlay, _ = chord.Fail(w.Overlay, no)
		w.Servers = slices.DeleteFunc(w.Servers, func(s api.Server) bool { return s.No == no })
	case 2:
		b := byte(d.Intn(256))
		if then, _, err := world.Step(w, api.Act{Kind: api.WJoin, No: d.Intn(16), Id: last(b), Data: "new"}); err == api.OK {
			w = then
		}
	case 3:
		n := &w.Overlay.Nodes[d.Intn(len(w.Overlay.Nodes))]
		n.Succs = n.Succs[:1]
	}
	return w
}

// TestByChance asks of worlds, stable and not, what the model says of them.
func TestByChance(t *testing.T) {
	is, told, drained, lost := map[bool]int{}, map[api.Errno]int{}, map[api.Errno]int{}, 0
	for seed := range int64(800) {
		d := rolled(seed)
		w := clone(d.spoiled(d.busy(d.stable(d.Intn(15)*d.Intn(10)), d.Intn(30)*d.Intn(2))))
		if d.Intn(10) == 0 {
			w.Mail.Last = maxTick - d.Intn(30)
		}
		if !world.Right(w) {
			t.Fatalf("may not be: %+v", w)
		}
		if got := Is(w); got != modelIs(w) {
			t.Fatalf("%v: %+v", got, w)
		}
		is[modelIs(w)]++
		l, err := Triggers(w)
		if want, e := modelTriggers(w); !slices.Equal(l, want) || err != e {
			t.Fatalf("%+v: %d, %+v, want %d, %+v", w, err, l, e, want)
		}
		told[err]++
		order := d.order()
		then, notes, err := drain(t, w, order...)
		want, all, _, e := modelDrain(w, order...)
		if !same(then, want) || !slices.Equal(notes, all) || err != e {
			t.Fatalf("%+v by %v: %d, %+v, %+v, want %d, %+v, %+v", w, order, err, then, notes, e, want, all)
		}
		drained[err]++
		lost += len(of(notes, api.NLost))
	}
	if is[true] < 250 || is[false] < 250 || told[api.OK] < 500 || told[api.ErrFull] < 30 || drained[api.OK] < 500 || drained[api.ErrFull] < 10 || lost < 1000 {
		t.Errorf("%v, %v, %v, %d lost", is, told, drained, lost)
	}
}

// of is those notes that are of a kind.
func of(notes []api.Note, kind int) []api.Note {
	return slices.DeleteFunc(slices.Clone(notes), func(n api.Note) bool { return n.Kind != kind })
}

// removable are the triggers that letters on their way may take out.
func removable(w api.World) map[pair]bool {
	all := map[pair]bool{}
	for _, l := range w.Mail.Flight {
		if m, _ := wire.Parse(l.Data); m.Kind == api.MRemove {
			all[pair{m.Id, m.Target}] = true
		}
	}
	return all
}

// TestStaysStable asks that a stable world, drained, is stable still, and has the triggers that it had, and those that were admitted. Just a letter that asks that one goes, which no act posts, has one go.
func TestStaysStable(t *testing.T) {
	admitted, renewed, gone, quiet := 0, 0, 0, 0
	for seed := range int64(1000) {
		d := rolled(-1 - seed)
		w := d.busy(d.stable(d.Intn(20)), d.Intn(25))
		if !Is(w) {
			t.Fatalf("not stable: %+v", w)
		}
		then, notes, err := drain(t, w, d.order()...)
		if err != api.OK {
			continue
		}
		want := alive(w)
		for _, n := range of(notes, api.NAdmit) {
			p := pair{n.Trigger.Id, n.Trigger.Target}
			if _, is := want[p]; is {
				renewed++
			}
			want[p] = max(want[p], n.Trigger.Until)
			admitted++
		}
		got, may := alive(then), removable(w)
		for p := range want {
			if _, is := got[p]; !is && may[p] {
				delete(want, p)
				gone++
			}
		}
		for p, until := range got {
			// One that has gone and come again lives as long as it was admitted for.
			if may[p] && until < want[p] {
				want[p] = until
			}
		}
		if !Is(then) || !modelIs(then) || !slices.Equal(listed(got), listed(want)) {
			t.Fatalf("%+v: %+v, %+v", w, then, notes)
		}
		if len(of(notes, api.NAdmit)) == 0 {
			quiet++
		}
	}
	if admitted < 2000 || renewed < 300 || gone < 50 || quiet < 50 {
		t.Errorf("%d admitted, %d renewed, %d gone, %d without any", admitted, renewed, gone, quiet)
	}
}

// TestStaysStableOfActs is so of what just acts bring about: then no trigger ever goes.
func TestStaysStableOfActs(t *testing.T) {
	admitted := 0
	for seed := range int64(300) {
		d := rolled(5000 + seed)
		w := d.stable(d.Intn(10))
		for range 8 {
			a := api.Act{Kind: []int{api.WAsk, api.WLink, api.WSend, api.WTwice, api.WLast, api.WLose, api.WBring}[d.Intn(7)], No: d.Intn(4), N: d.Intn(20), Id: d.id(), Data: "hi"}
			a.Stack = []api.Entry{toId(leftOf(a.Id, byte(d.Intn(3))))}
			if then, _, err := world.Step(w, a); err == api.OK {
				w = then
			}
		}
		then, notes, err := drain(t, w, d.order()...)
		if err != api.OK {
			continue
		}
		want := alive(w)
		for _, n := range of(notes, api.NAdmit) {
			p := pair{n.Trigger.Id, n.Trigger.Target}
			want[p] = max(want[p], n.Trigger.Until)
			admitted++
		}
		l, err := Triggers(then)
		if !Is(w) || !Is(then) || err != api.OK || !slices.Equal(l, listed(want)) {
			t.Fatalf("%+v: %d, %+v, %+v", w, err, then, notes)
		}
	}
	if admitted < 500 {
		t.Errorf("%d admitted", admitted)
	}
}

// gets is the hosts that got something, in order, each of which must have got just that.
func gets(t *testing.T, notes []api.Note, text string) []int {
	t.Helper()
	var l []int
	for _, n := range of(notes, api.NGet) {
		l = append(l, n.No)
		if n.Data != text {
			t.Fatalf("%+v, want %q", n, text)
		}
	}
	slices.Sort(l)
	return l
}

// TestQuiet asks that in a stable world without letters data comes to just the hosts that spread.Deliver tells, in whatever order letters are brought.
func TestQuiet(t *testing.T) {
	came, lost, dead, long := map[int]int{}, 0, 0, 0
	for seed := range int64(500) {
		d := rolled(9000 + seed)
		w := d.stable(d.Intn(45))
		l, err := Triggers(w)
		if err != api.OK {
			continue
		}
		for range 4 {
			text := string(rune('a' + d.Intn(26)))
			a := api.Act{Kind: api.WSend, No: d.Intn(4), Stack: d.stack(), Data: text}
			sent, noted, err := world.Step(w, a)
			if err != api.OK || !Is(sent) {
				t.Fatalf("%+v: %d", a, err)
			}
			want, full := spread.Deliver(l, api.Packet{Stack: a.Stack, Hops: 64, Data: text})
			if want.Work > 150 || full != api.OK {
				// Just some of these, as they take long.
				if d.Intn(25) > 0 {
					continue
				}
				long++
			}
			for range 3 {
				then, notes, err := drain(t, sent, d.order()...)
				if err != api.OK {
					continue
				}
				if len(of(notes, api.NLost)) > 0 {
					lost++
					continue
				}
				got := gets(t, notes, text)
				if !slices.Equal(got, want.Hosts) || full != api.OK || len(noted) != 1 || !Is(then) {
					t.Fatalf("%+v in %+v: %v, want %v", a, w, got, want)
				}
				came[min(len(got), 6)]++
				dead += want.Hops
			}
		}
	}
	for n := range 7 {
		if came[n] < 50 {
			t.Errorf("%v", came)
		}
	}
	if lost < 20 || dead < 100 || long < 5 {
		t.Errorf("%d lost, %d dead, %d long", lost, dead, long)
	}
}

// TestNothingPanics is of worlds of which nothing is sure.
func TestNothingPanics(t *testing.T) {
	d := rolled(77)
	worlds := append(rightWorlds(), wrongWorlds()...)
	for range 1500 {
		c := worlds[d.Intn(len(worlds))]
		w, notes, err := Drain(c.world, d.order()...)
		if err != api.OK && (!isZero(w) || len(notes) > 0) || err == api.OK && !world.Right(w) {
			t.Fatalf("%s: %d, %+v, %+v", c.what, err, w, notes)
		}
		if l, err := Triggers(c.world); err != api.OK && len(l) > 0 {
			t.Fatalf("%s: %d, %+v", c.what, err, l)
		}
		if Is(c.world) && !world.Right(c.world) {
			t.Fatalf("%s: stable", c.what)
		}
	}
}
