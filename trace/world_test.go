package trace

import (
	"bytes"
	"crypto/sha256"
	"slices"
	"strings"
	"testing"

	"posthouse/api"
	"posthouse/world"
)

// leftOf is what an identifier's key leads to, by another SHA-256.
func leftOf(a api.Id) api.Id {
	sum := sha256.Sum256(slices.Concat([]byte("left"), a[:16]))
	return api.Id(slices.Concat(sum[:16], make([]byte, 16)))
}

// last is the last identifier of a key, as that of a server is.
func last(b byte) api.Id {
	return api.Id(append([]byte{0: b, 15: 0}, bytes.Repeat([]byte{255}, 16)...))
}

// play has acts happen in a world that they may happen in, and answers what was noted.
func play(t *testing.T, w api.World, acts ...api.Act) (api.World, []api.Note) {
	t.Helper()
	var all []api.Note
	for _, a := range acts {
		then, notes, err := world.Step(w, a)
		if err != api.OK {
			t.Fatalf("%+v in %+v: %d", a, w, err)
		}
		w, all = then, append(all, notes...)
	}
	return w, all
}

// drained brings the first letter until none is left.
func drained(t *testing.T, w api.World) (api.World, []api.Note) {
	t.Helper()
	var all []api.Note
	for len(w.Mail.Flight) > 0 {
		then, notes := play(t, w, api.Act{Kind: api.WBring})
		w, all = then, append(all, notes...)
	}
	return w, all
}

// TestOfAWorld has data come to the hosts 1 and 2 by a link and the triggers of both, and to host 1 once more, as a letter came twice.
func TestOfAWorld(t *testing.T) {
	from := place(50)
	to := leftOf(from)
	w, l := play(t, api.World{},
		api.Act{Kind: api.WJoin, No: 3, Id: last(40), Data: "one"}, api.Act{Kind: api.WJoin, No: 5, Id: last(80), To: 3, Data: "two"},
		api.Act{Kind: api.WRound}, api.Act{Kind: api.WRound}, api.Act{Kind: api.WPass, N: 7},
		api.Act{Kind: api.WHost, No: 1, To: 3}, api.Act{Kind: api.WHost, No: 2, To: 5}, api.Act{Kind: api.WHost, No: 4, To: 5},
		api.Act{Kind: api.WWant, No: 1, Id: to, N: 100}, api.Act{Kind: api.WWant, No: 2, Id: to, N: 50},
		api.Act{Kind: api.WAsk, No: 1}, api.Act{Kind: api.WAsk, No: 2},
		api.Act{Kind: api.WLink, No: 4, Id: from, N: 30, Stack: []api.Entry{toId(to)}},
	)
	add := func(w api.World, notes []api.Note) api.World {
		l = append(l, notes...)
		return w
	}
	w = add(drained(t, w))
	w = add(play(t, w, api.Act{Kind: api.WPass, N: 20}, api.Act{Kind: api.WSend, No: 4, Stack: []api.Entry{toId(from)}, Data: "hi"}))
	sent := l[len(l)-1].Letter
	w = add(drained(t, w))
	w = add(play(t, w, api.Act{Kind: api.WSend, No: 2, Stack: []api.Entry{toHost(1)}, Data: "ho"}, api.Act{Kind: api.WTwice}))
	again := l[len(l)-1].Letter
	add(drained(t, w))
	if place, err := Check(l); place != len(l) || err != api.OK {
		t.Fatalf("%d, %d of %+v", err, place, l)
	}
	link := trig(from, toId(to), 37)
	want := map[string][]api.Trigger{"hi 1": {link, trig(to, toHost(1), 107)}, "hi 2": {link, trig(to, toHost(2), 57)}, "ho 1": nil}
	senders, came := map[string]int{"hi": 4, "ho": 2}, map[string]int{}
	for at, n := range l {
		if n.Kind != api.NGet {
			continue
		}
		what := n.Data + " " + string(rune('0'+n.No))
		by, no, err := Chain(l, at)
		if !slices.Equal(by, want[what]) || no != senders[n.Data] || err != api.OK {
			t.Errorf("%s: %d, %d, %+v", what, err, no, by)
		}
		came[what]++
	}
	if came["hi 1"] != 1 || came["hi 2"] != 1 || came["ho 1"] != 2 || len(came) != 3 {
		t.Errorf("%v", came)
	}
	ons := 0
	for _, n := range l {
		if n.Kind == api.NOn {
			ons++
		}
	}
	// Each letter that went on came of one of both.
	one, err := Cost(l, sent)
	two, e := Cost(l, again)
	if err != api.OK || e != api.OK || one+two != ons+2 || two != 3 {
		t.Errorf("%d: %d, %d: %d, of %d", err, one, e, two, ons)
	}
}

// act is one by chance, of a world with servers and hosts.
func (d dice) act(w api.World, ids []api.Id) api.Act {
	id := func() api.Id { return ids[d.Intn(len(ids))] }
	kinds := []int{api.WSend, api.WSend, api.WAsk, api.WWant, api.WLink, api.WTwice, api.WLast, api.WPass, api.WRound, 1 + d.Intn(15)}
	a := api.Act{Kind: kinds[d.Intn(len(kinds))], No: d.Intn(4), To: d.Intn(7), N: 1 + d.Intn(200), Id: id(), Stack: []api.Entry{toId(id())}, Data: strings.Repeat("x", d.Intn(4))}
	if len(w.Mail.Flight) > 0 && d.Intn(4) > 0 {
		a.Kind = api.WBring
	}
	switch a.Kind {
	case api.WJoin:
		a.No, a.Id = d.Intn(7), last(byte(30*d.Intn(8)+9))
	case api.WLeave, api.WFail:
		a.No = d.Intn(7)
		if len(w.Servers) < 3 || d.Intn(4) > 0 {
			a.Kind = api.WRound
		}
	case api.WPass:
		a.N = d.Intn(12)
	case api.WSend:
		if d.Intn(3) == 0 {
			a.Stack = append(a.Stack, []api.Entry{toHost(d.Intn(4)), toId(id())}[d.Intn(2)])
		}
	case api.WBring, api.WTwice, api.WLast, api.WLose:
		a.N = d.Intn(len(w.Mail.Flight) + 1)
	case api.WLink:
		if d.Intn(6) > 0 {
			a.Stack = []api.Entry{toId(leftOf(a.Id))}
		}
	}
	return a
}

// run is all that is noted of what happens in a world by chance: letters are lost, come twice and out of order, and servers come, leave and fail.
func (d dice) run(acts int) []api.Note {
	var ids []api.Id
	for range 3 {
		one := place(byte(d.Intn(256)))
		like := one
		like[20]++
		ids = append(ids, one, like, leftOf(one), leftOf(leftOf(one)))
	}
	w := api.World{}
	var all []api.Note
	happen := func(a api.Act) {
		if then, notes, err := world.Step(w, a); err == api.OK {
			w, all = then, append(all, notes...)
		}
	}
	for no := range 4 {
		happen(api.Act{Kind: api.WJoin, No: no, Id: last(byte(60*no + 10)), Data: "secret"})
		happen(api.Act{Kind: api.WHost, No: no, To: d.Intn(4)})
		happen(api.Act{Kind: api.WRound})
	}
	for range acts {
		happen(d.act(w, ids))
	}
	return all
}

// sentBy tells whether a note tells that a host sent that data.
func sentBy(l []api.Note, no int, data string) bool {
	return slices.ContainsFunc(l, func(n api.Note) bool { return n.Kind == api.NSend && n.No == no && n.Data == data })
}

// TestWhatAHostGotIsJustified asks that whatever happens in a world is justified; and, when one of its notes is spoiled, what the model says.
func TestWhatAHostGotIsJustified(t *testing.T) {
	y, got, spoiled := tallied(), 0, 0
	for seed := range int64(100) {
		d := rolled(900 + seed)
		l := d.run(300)
		if place, err := Check(l); place != len(l) || err != api.OK || len(l) > 1000 {
			t.Fatalf("%d, %d of %+v", err, place, l)
		}
		for at, n := range l {
			if n.Kind != api.NGet {
				continue
			}
			by, no, err := chain(t, l, at)
			if err != api.OK || !sentBy(l[:at], no, n.Data) {
				t.Fatalf("%d of %+v: %d, %d, %+v", at, l, err, no, by)
			}
			y.long[min(len(by), 4)]++
			mustBeAdmitted(t, l, at, by)
			got++
		}
		for _, n := range l {
			if n.Kind == api.NSend {
				many, _ := cost(t, l, n.Letter)
				y.dear[min(many, 6)]++
			}
		}
		for range 20 {
			x := d.spoiled(l)
			place, err := Check(x)
			if want, e := modelCheck(x); place != want || err != e {
				t.Fatalf("%+v: %d, %d, want %d, %d", x, err, place, e, want)
			}
			if err == api.ErrProof {
				spoiled++
			}
		}
	}
	if got < 500 || y.long[0] < 50 || y.long[1] < 100 || y.long[2] < 20 || y.long[3] < 5 || y.dear[1] < 20 || y.dear[3] < 50 || y.dear[6] < 30 || spoiled < 300 {
		t.Errorf("%d got, %v, %v, %d spoiled", got, y.long, y.dear, spoiled)
	}
}
