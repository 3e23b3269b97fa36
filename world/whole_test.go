package world

import (
	"math/rand"
	"slices"
	"testing"

	"posthouse/api"
	"posthouse/spread"
	"posthouse/wire"
)

// play has acts happen in a world, none of which may be refused, and tells all that is noted.
func play(t *testing.T, w api.World, acts ...api.Act) (api.World, []api.Note) {
	t.Helper()
	var all []api.Note
	for _, a := range acts {
		then, notes, err := step(t, w, a)
		if err != api.OK {
			t.Fatalf("%+v: %d", a, err)
		}
		w, all = then, append(all, notes...)
	}
	return w, all
}

// drained is a world in which letters are brought until none is on its way, from a place that is told of how many there are.
func drained(t *testing.T, w api.World, place func(many int) int) (api.World, []api.Note) {
	t.Helper()
	var all []api.Note
	for range 5000 {
		many := len(w.Mail.Flight)
		if many == 0 {
			return w, all
		}
		then, notes := play(t, w, bring(place(many)))
		w, all = then, append(all, notes...)
	}
	t.Fatal("letters do not end")
	return w, all
}

func first(int) int { return 0 }

func asks(no int) api.Act { return api.Act{Kind: api.WAsk, No: no} }

// wanting is a world in which hosts want identifiers, and have their triggers.
func wanting(t *testing.T, w api.World, wants ...api.Act) api.World {
	t.Helper()
	for _, a := range wants {
		w, _ = play(t, w, a, asks(a.No))
	}
	w, notes := drained(t, w, first)
	for _, n := range notes {
		if n.Kind != api.NAdmit {
			t.Fatalf("%+v", n)
		}
	}
	return w
}

// of is those notes that are of a kind.
func of(notes []api.Note, kind int) []api.Note {
	return slices.DeleteFunc(slices.Clone(notes), func(n api.Note) bool { return n.Kind != kind })
}

// gets is the hosts that got something, in order.
func gets(notes []api.Note) []int {
	var l []int
	for _, n := range of(notes, api.NGet) {
		l = append(l, n.No)
	}
	slices.Sort(l)
	return l
}

// TestToAHost is the chapter's example.
func TestToAHost(t *testing.T) {
	_, notes := play(t, two(), sendTo(1, "hi", toHost(2)), bring(0), bring(0))
	want := []api.Note{{Kind: api.NSend, At: 100, No: 1, Letter: 8, Data: "hi"}, on(3, 8, 9, unlike), got(2, 9, "hi")}
	if !slices.Equal(notes, want) {
		t.Errorf("%+v, want %+v", notes, want)
	}
}

// TestAHostWants has a host ask at the server of another identifier: it is asked by the owner, echoes to that, and its trigger is there.
func TestAHostWants(t *testing.T) {
	w, _ := play(t, two(), want(1, place(50), 60), asks(1))
	from := func(w api.World) []int {
		var l []int
		for _, x := range w.Mail.Flight {
			m, _ := wire.Parse(x.Data)
			l = append(l, x.From, x.To, m.Kind)
		}
		return l
	}
	for _, c := range []struct {
		flight []int
		notes  []api.Note
	}{
		{[]int{17, 3, api.MInsert}, nil},
		{[]int{17, 5, api.MInsert}, nil},
		{[]int{5, 17, api.MAsk}, nil},
		{[]int{17, 5, api.MEcho}, []api.Note{admitted(5, trig(place(50), toHost(1), 160))}},
		{[]int{5, 17, api.MAck}, nil},
	} {
		if !slices.Equal(from(w), c.flight) {
			t.Fatalf("%v, want %v", from(w), c.flight)
		}
		var notes []api.Note
		if w, notes = play(t, w, bring(0)); !slices.Equal(notes, c.notes) {
			t.Fatalf("%+v, want %+v", notes, c.notes)
		}
	}
	if len(w.Mail.Flight) > 0 || !same(w, with(two(), func(w *api.World) {
		w.Servers[1].Table = []api.Trigger{trig(place(50), toHost(1), 160)}
		w.Hosts[0].Wants = []api.Want{wanted(place(50), 60)}
		w.Mail.Last = 12
	})) {
		t.Errorf("%+v", w)
	}
}

func TestWhoGets(t *testing.T) {
	near := func(b byte) api.Id { id := place(50); id[17] = b; return id }
	w := wanting(t, two(), want(1, place(50), 900), want(2, place(50), 900), want(1, near(0x40), 900), want(2, place(90), 900))
	linked, _ := play(t, w, link(1, rightOf(place(50), 1), 900, toId(place(50))), link(2, place(70), 900, toId(leftOf(place(70), 0))))
	linked, _ = drained(t, linked, first)
	for _, c := range []struct {
		what  string
		w     api.World
		stack []api.Entry
		want  []int
	}{
		{"two hosts want it", w, []api.Entry{toId(place(50))}, []int{1, 2}},
		{"one wants it", w, []api.Entry{toId(place(90))}, []int{2}},
		{"likest to another one", w, []api.Entry{toId(near(0x41))}, []int{1}},
		{"likest to the first of both", w, []api.Entry{toId(near(0x01))}, []int{1, 2}},
		{"not wanted", w, []api.Entry{toId(place(51))}, nil},
		{"by the second entry", w, []api.Entry{toId(place(51)), toId(place(90))}, []int{2}},
		{"by the third entry, at the other server", w, []api.Entry{toId(place(51)), toId(place(91)), toId(place(50))}, []int{1, 2}},
		{"by a link", linked, []api.Entry{toId(rightOf(place(50), 1))}, []int{1, 2}},
		{"by a link that leads nowhere", linked, []api.Entry{toId(place(70))}, nil},
		{"by a link that leads nowhere, and a next entry", linked, []api.Entry{toId(place(70)), toHost(2)}, []int{2}},
	} {
		for _, from := range []int{1, 2} {
			sent, _ := play(t, c.w, sendTo(from, "hi", c.stack...))
			_, notes := drained(t, sent, first)
			if !slices.Equal(gets(notes), c.want) || len(of(notes, api.NLost)) > 0 {
				t.Errorf("%s: %v of %+v", c.what, gets(notes), notes)
			}
		}
	}
}

// TestRefusedTriggers are of no link, and of a nonce of another secret.
func TestRefusedTriggers(t *testing.T) {
	w, _ := play(t, two(), link(1, place(50), 60, toId(place(90))))
	w, notes := drained(t, w, first)
	if !slices.Equal(notes, []api.Note{lostNote(5, 9, api.ErrProof)}) || len(triggers(w)) > 0 {
		t.Errorf("%+v, %+v", notes, w)
	}
	w, _ = play(t, two(), want(1, place(50), 60), asks(1), bring(0), bring(0))
	// The server comes again, of another secret, when it has asked.
	w, _ = play(t, w, fail(5), join(5, last(80), "another"))
	w, notes = drained(t, w, first)
	if !slices.Equal(notes, []api.Note{lostNote(5, 11, api.ErrProof)}) || len(triggers(w)) > 0 {
		t.Errorf("%+v, %+v", notes, w)
	}
}

// TestARowThatLeadsBack has a packet go round until its hops are over.
func TestARowThatLeadsBack(t *testing.T) {
	a, b := place(50), place(90)
	w := with(two(), keeping(5, trig(a, toId(b), 900)), keeping(3, trig(b, toId(a), 900)))
	w, _ = play(t, w, sendTo(2, "hi", toId(a)))
	_, notes := drained(t, w, first)
	if len(notes) != 64 || len(of(notes, api.NOn)) != 64 {
		t.Errorf("%d: %+v", len(notes), notes)
	}
}

// TestServersGo has one leave: the one that followed it has its triggers. And it fails: they are gone until hosts ask again.
func TestServersGo(t *testing.T) {
	w := wanting(t, two(), want(1, place(50), 900), want(1, place(90), 900))
	goTo := func(w api.World) []int {
		sent, _ := play(t, w, sendTo(1, "hi", toId(place(50))), sendTo(1, "hi", toId(place(90))))
		_, notes := drained(t, sent, first)
		return gets(notes)
	}
	left, _ := play(t, w, leave(5))
	failed, _ := play(t, w, fail(5))
	again, _ := play(t, failed, asks(1))
	again, _ = drained(t, again, first)
	came, _ := play(t, again, join(5, last(80), "new"), api.Act{Kind: api.WRound}, api.Act{Kind: api.WRound})
	for i, c := range []struct {
		w    api.World
		want []int
	}{{w, []int{1, 1}}, {left, []int{1, 1}}, {failed, []int{1}}, {again, []int{1, 1}}, {came, []int{1, 1}}} {
		if l := goTo(c.w); !slices.Equal(l, c.want) {
			t.Errorf("%d: %v, want %v", i, l, c.want)
		}
	}
	if n := len(serverOf(&came, 5).Table); n != 1 {
		t.Errorf("%d triggers are given", n)
	}
}

// TestTwiceAndLost has a letter come twice, and so its data; and one be lost, and so nothing.
func TestTwiceAndLost(t *testing.T) {
	w, _ := play(t, two(), sendTo(1, "hi", toHost(2)))
	twice, _ := play(t, w, api.Act{Kind: api.WTwice})
	twice, notes := drained(t, twice, first)
	if !slices.Equal(gets(notes), []int{2, 2}) || !slices.Equal(twice.Hosts[1].Inbox, []string{"hi", "hi"}) {
		t.Errorf("%+v, %+v", notes, twice.Hosts)
	}
	none, _ := play(t, w, api.Act{Kind: api.WLose})
	if _, notes = drained(t, none, first); len(notes) > 0 {
		t.Errorf("%+v", notes)
	}
}

// TestQuiet asks that in a stable world a packet comes to just the hosts that all triggers, as one table, tell, in whatever order letters are brought.
func TestQuiet(t *testing.T) {
	chance := rand.New(rand.NewSource(4))
	came := map[int]int{}
	for range 300 {
		var l []api.Member
		for i, no := range chance.Perm(16)[:1+chance.Intn(6)] {
			l = append(l, at(no, byte(40*i+chance.Intn(40))))
		}
		w := over(settled(l...))
		w.Hosts = []api.Host{{No: 1, Gate: l[0].No}, {No: 4, Gate: l[0].No}, {No: 9, Gate: l[len(l)-1].No}}
		// Some bytes are the same in many, so that one may be likest to another one.
		ids := []api.Id{place(byte(chance.Intn(250)))}
		for range 4 {
			a := place(byte(chance.Intn(250)))
			if chance.Intn(2) == 0 {
				a = ids[chance.Intn(len(ids))]
				a[16+chance.Intn(16)] = byte(chance.Intn(256))
			}
			ids = append(ids, a)
		}
		id := func() api.Id { return ids[chance.Intn(len(ids))] }
		for range 6 {
			if then, _, err := step(t, w, want([]int{1, 4, 9}[chance.Intn(3)], id(), 9999)); err == api.OK {
				w = then
			}
		}
		for range chance.Intn(3) {
			b := id()
			a := rightOf(b, byte(chance.Intn(256)))
			w, _ = play(t, w, link(4, a, 9999, toId(b)))
			ids = append(ids, a)
		}
		w, _ = play(t, w, asks(1), asks(4), asks(9))
		w, _ = drained(t, w, chance.Intn)
		var all []api.Trigger
		for _, s := range w.Servers {
			all = append(all, s.Table...)
		}
		for range 5 {
			packet := api.Packet{Stack: []api.Entry{toId(id())}, Hops: 64, Data: "hi"}
			if chance.Intn(3) == 0 {
				packet.Stack = append(packet.Stack, toId(id()))
			}
			want, err := spread.Deliver(sorted(all), packet)
			if err != api.OK {
				t.Fatal(err)
			}
			then, notes := play(t, w, sendTo(1, "hi", packet.Stack...))
			then, behind := drained(t, then, chance.Intn)
			if !slices.Equal(gets(behind), want.Hosts) || len(notes) != 1 || len(of(behind, api.NLost)) > 0 {
				t.Fatalf("%+v of %+v: %v, %+v, want %v", packet, w, gets(behind), behind, want)
			}
			came[len(want.Hosts)]++
			// Hints stay, so that the next one goes another way; nothing else does.
			w.Hosts, w.Mail.Last = then.Hosts, then.Mail.Last
			for i := range w.Hosts {
				w.Hosts[i].Inbox = nil
			}
		}
	}
	if came[0] < 50 || came[1] < 50 || came[2] < 50 || came[3] < 20 {
		t.Errorf("%v", came)
	}
}
