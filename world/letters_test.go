package world

import (
	"slices"
	"strings"
	"testing"

	"posthouse/api"
)

func bring(n int) api.Act { return api.Act{Kind: api.WBring, N: n} }

// brought is a letter that comes in a world, with what should come of it: the world without it, but for what is changed.
type brought struct {
	what   string
	world  api.World
	l      api.Letter
	change []func(w *api.World)
	notes  []api.Note
}

// mustBring brings each letter when it is the only one, and when it is between others.
func mustBring(t *testing.T, l []brought) {
	t.Helper()
	others := []api.Letter{{No: 1, From: 3, To: 5, Data: "x"}, {No: 2, From: 19, To: 31}, {No: 1, From: 3, To: 5, Data: "x"}}
	for _, c := range l {
		w := with(c.world, posted(c.l))
		mustHappen(t, []happening{{c.what, w, bring(len(w.Mail.Flight) - 1), with(c.world, c.change...), c.notes}})
		if len(c.world.Mail.Flight) > 0 {
			continue
		}
		between := with(c.world, func(w *api.World) { w.Mail.Flight = append(slices.Clone(others[:2]), c.l, others[2]) })
		then := with(c.world, append([]func(*api.World){func(w *api.World) { w.Mail.Flight = slices.Clone(others) }}, c.change...)...)
		mustHappen(t, []happening{{c.what + ", between others", between, bring(2), then, c.notes}})
	}
}

func admitted(no int, x api.Trigger) api.Note {
	return api.Note{Kind: api.NAdmit, At: 100, No: no, Trigger: x}
}

func on(no, was, is int, by api.Trigger) api.Note {
	return api.Note{Kind: api.NOn, At: 100, No: no, Was: was, Letter: is, Trigger: by}
}

func got(no, was int, text string) api.Note {
	return api.Note{Kind: api.NGet, At: 100, No: no, Was: was, Data: text}
}

// unlike is the trigger of nothing.
var unlike api.Trigger

func TestBringWhatIsNoMessage(t *testing.T) {
	whole := bytesOf(data(5, "hi", toId(place(50))))
	for _, text := range []string{"", "\x00", "x", whole[:40], "\x00" + whole, "\x0b" + whole, strings.Repeat("\xff", 300), bytesOf(push(place(1))) + "x", bytesOf(push(place(1)))[:32]} {
		for to := range 32 {
			l := api.Letter{No: 6, From: 31 - to, To: to, Data: text}
			mustBring(t, []brought{{"no message", two(), l, nil, []api.Note{lostNote(to, 6, api.ErrSyntax)}}})
		}
	}
}

func TestBringToNone(t *testing.T) {
	for to := range 32 {
		if to == 3 || to == 5 || to == 17 || to == 18 {
			continue
		}
		for _, m := range []api.Msg{data(5, "hi", toId(place(50))), data(5, "hi", toHost(to%16)), insert(place(50), toHost(1), 5), push(place(50)), ack(place(50), toHost(1))} {
			mustBring(t, []brought{
				{"to none", two(), letter(6, 17, to, m), nil, []api.Note{lostNote(to, 6, api.ErrDown)}},
				{"to none of a few", with(two(), crowded(63)), letter(6, 3, to, m), nil, []api.Note{lostNote(to, 6, api.ErrDown)}},
				{"to none of none", api.World{Mail: two().Mail}, letter(6, 17, to, m), nil, []api.Note{lostNote(to, 6, api.ErrDown)}},
			})
		}
	}
}

// TestBringToAnother has a message come to a server that finds that another one is its identifier's owner.
func TestBringToAnother(t *testing.T) {
	a, b := place(50), place(90)
	nonce := nonceOf(secretOf(3), b, 2)
	// Whatever the server itself keeps: it does not take it. And what is not its is not judged by it.
	kept := with(two(), keeping(3, trig(a, toHost(1), 900)), keeping(5, trig(b, toHost(2), 900)))
	forward := func(from, to int, m api.Msg) []func(w *api.World) {
		return []func(w *api.World){posted(letter(8, from, to, m))}
	}
	var l []brought
	for _, from := range []int{0, 3, 5, 15, 16, 17, 31} {
		l = append(l,
			brought{"data", kept, letter(6, from, 3, data(9, "hi", toId(a), toHost(1))), forward(from, 5, data(9, "hi", toId(a), toHost(1))), []api.Note{on(3, 6, 8, unlike)}},
			brought{"data with no hops", kept, letter(6, from, 5, data(0, "", toId(b))), forward(from, 3, data(0, "", toId(b))), []api.Note{on(5, 6, 8, unlike)}},
			brought{"data with more hops than there are", kept, letter(6, from, 5, data(maxTick, "", toId(b))), forward(from, 3, data(maxTick, "", toId(b))), []api.Note{on(5, 6, 8, unlike)}},
			brought{"insert", kept, letter(6, from, 3, insert(a, toHost(1), 5)), forward(from, 5, insert(a, toHost(1), 5)), nil},
			brought{"insert of no link", kept, letter(6, from, 3, insert(a, toId(b), 5)), forward(from, 5, insert(a, toId(b), 5)), nil},
			brought{"echo", kept, letter(6, from, 5, echo(b, toHost(2), 5, nonce)), forward(from, 3, echo(b, toHost(2), 5, nonce)), nil},
			brought{"remove", kept, letter(6, from, 5, remove(b, toHost(2), nonce)), forward(from, 3, remove(b, toHost(2), nonce)), nil},
			brought{"data, when all numbers are over", with(kept, ended), letter(6, from, 3, data(9, "hi", toId(a))), nil, []api.Note{lostNote(from, 0, api.ErrFull)}},
			brought{"insert, when all numbers are over", with(kept, ended), letter(6, from, 3, insert(a, toHost(1), 5)), nil, []api.Note{lostNote(from, 0, api.ErrFull)}},
			brought{"data, of as many as there may be", with(two(), crowded(63)), letter(6, from, 3, data(9, "hi", toId(a))), forward(from, 5, data(9, "hi", toId(a))), []api.Note{on(3, 6, 8, unlike)}},
		)
	}
	mustBring(t, l)
}

// TestBringByWhatIsKnown has an owner be found by what servers know, though it is none in truth.
func TestBringByWhatIsKnown(t *testing.T) {
	a := place(50)
	// Server 9, at 60, has come, and no other one knows it: 3 and 5 hold 5 for the owner, and so does 9 itself.
	w := joined(two(), 9, last(60), secretOf(9), at(5, 80))
	m := data(9, "hi", toId(a))
	// What begins with 70 is found by 9, as that knows who follows.
	mustBring(t, []brought{
		{"from 3", w, letter(6, 17, 3, m), []func(*api.World){posted(letter(8, 17, 5, m))}, []api.Note{on(3, 6, 8, unlike)}},
		{"at 5", w, letter(6, 17, 5, m), []func(*api.World){posted(letter(8, 5, 17, push(a)))}, nil},
		{"from 9", w, letter(6, 17, 9, data(9, "hi", toId(place(70)))), []func(*api.World){posted(letter(8, 17, 5, data(9, "hi", toId(place(70)))))}, []api.Note{on(9, 6, 8, unlike)}},
	})
}

// TestBringRoundTheRing has each of 16 know just the next one, so that all are asked: the owner is found even so.
func TestBringRoundTheRing(t *testing.T) {
	var l []api.Member
	for no := range 16 {
		l = append(l, at(no, byte(10*no+10)))
	}
	w := over(settled(l...))
	for no := range w.Overlay.Nodes {
		n := &w.Overlay.Nodes[no]
		n.Pred, n.Succs = nobody(), n.Succs[:1]
	}
	w.Mail = two().Mail
	for far := 1; far <= 15; far++ {
		for no := range 16 {
			owner := (no + far) % 16
			m := data(9, "hi", toId(l[owner].Id))
			mustBring(t, []brought{{"far on", w, letter(6, 17, no, m), []func(*api.World){posted(letter(8, 17, owner, m))}, []api.Note{on(no, 6, 8, unlike)}}})
		}
	}
	// Its own identifier goes round all of the ring, and comes to it itself.
	for no := range 16 {
		mustBring(t, []brought{{"all round", w, letter(6, 17, no, data(9, "hi", toId(l[no].Id))), []func(*api.World){posted(letter(8, no, 17, push(l[no].Id)))}, nil}})
	}
}

func TestBringClaims(t *testing.T) {
	a := place(50)
	left := leftOf(a, 9)
	link, mine := trig(a, toId(left), 105), trig(a, toHost(2), 105)
	nonce := nonceOf(secretOf(5), a, 2)
	old, just, other := trig(place(51), toHost(3), 100), trig(place(51), toHost(4), 101), trig(place(52), toHost(2), 900)
	kept := with(two(), keeping(5, old, just, other))
	had := with(two(), keeping(5, just, trig(a, toHost(2), 400)))
	all := with(two(), keeping(5, slices.Concat(thirtyTwo()[:31], []api.Trigger{trig(place(90), toHost(1), 900)})...))
	say := func(to int, m api.Msg) func(w *api.World) { return posted(letter(8, 5, to, m)) }
	var l []brought
	for _, from := range []int{0, 5, 15, 16, 18, 31} {
		l = append(l,
			brought{"insert of a host asks it", kept, letter(6, from, 5, insert(a, toHost(2), 5)), []func(*api.World){keeping(5, just, other), say(18, ask(a, toHost(2), nonce))}, nil},
			brought{"insert of a link comes in", kept, letter(6, from, 5, insert(a, toId(left), 5)), []func(*api.World){keeping(5, just, other, link), say(from, ack(a, toId(left)))}, []api.Note{admitted(5, link)}},
			brought{"insert of no link is refused", kept, letter(6, from, 5, insert(a, toId(place(51)), 5)), nil, []api.Note{lostNote(5, 6, api.ErrProof)}},
			brought{"echo comes in", kept, letter(6, from, 5, echo(a, toHost(2), 5, nonce)), []func(*api.World){keeping(5, just, other, mine), say(from, ack(a, toHost(2)))}, []api.Note{admitted(5, mine)}},
			brought{"echo of one that is there for longer", had, letter(6, from, 5, echo(a, toHost(2), 5, nonce)), []func(*api.World){say(from, ack(a, toHost(2)))}, []api.Note{admitted(5, mine)}},
			brought{"echo of another server's nonce", kept, letter(6, from, 5, echo(a, toHost(2), 5, nonceOf(secretOf(3), a, 2))), nil, []api.Note{lostNote(5, 6, api.ErrProof)}},
			brought{"echo of another host's nonce", kept, letter(6, from, 5, echo(a, toHost(1), 5, nonce)), nil, []api.Note{lostNote(5, 6, api.ErrProof)}},
			brought{"echo of no room", all, letter(6, from, 5, echo(a, toHost(2), 5, nonce)), nil, []api.Note{lostNote(5, 6, api.ErrFull)}},
			brought{"link of no room", all, letter(6, from, 5, insert(a, toId(left), 5)), nil, []api.Note{lostNote(5, 6, api.ErrFull)}},
			brought{"remove", with(kept, keeping(5, old, just, mine)), letter(6, from, 5, remove(a, toHost(2), nonce)), []func(*api.World){keeping(5, just)}, nil},
			brought{"remove of none", kept, letter(6, from, 5, remove(a, toHost(2), nonce)), nil, []api.Note{lostNote(5, 6, api.ErrNone)}},
			brought{"remove of another nonce", with(kept, keeping(5, mine)), letter(6, from, 5, remove(a, toHost(2), nonceOf("", a, 2))), nil, []api.Note{lostNote(5, 6, api.ErrProof)}},
			brought{"admitted, when all numbers are over", with(kept, ended), letter(6, from, 5, insert(a, toId(left), 5)), []func(*api.World){keeping(5, just, other, link)},
				[]api.Note{admitted(5, link), lostNote(5, 0, api.ErrFull)}},
			brought{"asked, when all numbers are over", with(kept, ended), letter(6, from, 5, insert(a, toHost(2), 5)), []func(*api.World){keeping(5, just, other)}, []api.Note{lostNote(5, 0, api.ErrFull)}},
		)
	}
	for _, m := range []api.Msg{ask(a, toHost(2), nonce), ack(a, toHost(2)), push(a), cache(a, 3), {Kind: api.MFind, Id: a, N: 3}, {Kind: api.MFound, Id: place(90), N: 3}} {
		// Of no identifier's: whatever that is, it is not sent on.
		for _, to := range []int{3, 5} {
			l = append(l, brought{"of a kind that no server takes", kept, letter(6, 17, to, m), nil, []api.Note{lostNote(to, 6, api.ErrArg)}})
		}
	}
	mustBring(t, l)
}

func TestBringALongTimeOn(t *testing.T) {
	a := place(50)
	late := with(two(), func(w *api.World) { w.Mail.Now = maxTick - 3 })
	long := trig(a, toId(leftOf(a, 1)), maxTick)
	note := api.Note{Kind: api.NAdmit, At: maxTick - 3, No: 5, Trigger: long}
	mustBring(t, []brought{{"a trigger to the last tick", late, letter(6, 31, 5, insert(a, long.Target, 9)),
		[]func(*api.World){keeping(5, long), posted(letter(8, 5, 31, ack(a, long.Target)))}, []api.Note{note}}})
}

func TestBringDataToAServer(t *testing.T) {
	a, b := place(50), place(90)
	first, second, third, old := trig(a, toId(b), 101), trig(a, toHost(0), 900), trig(a, toHost(2), 900), trig(a, toHost(7), 100)
	kept := with(two(), keeping(5, first, second, third, old))
	swept := keeping(5, first, second, third)
	text := func(n int, l ...api.Entry) api.Msg { return data(n, "hi", l...) }
	to := func(no, to int, m api.Msg) api.Letter { return letter(no, 5, to, m) }
	change := func(l ...func(w *api.World)) []func(w *api.World) { return l }
	three := []api.Letter{to(8, 3, text(8, toId(b), toHost(9))), to(9, 16, text(8, toHost(0), toHost(9))), to(10, 18, text(8, toHost(2), toHost(9)))}
	cached := to(11, 17, cache(a, 5))
	ons := []api.Note{on(5, 6, 8, first), on(5, 6, 9, second), on(5, 6, 10, third)}
	m := text(9, toId(a), toHost(9))
	own := with(two(), keeping(5, trig(a, toId(place(70)), 900)))
	mustBring(t, []brought{
		{"to a host", kept, letter(6, 17, 5, text(9, toHost(9), toId(a))), change(swept, posted(to(8, 25, text(9, toHost(9), toId(a))))), []api.Note{on(5, 6, 8, unlike)}},
		{"to a host, at any server", kept, letter(6, 4, 3, text(9, toHost(2))), change(posted(letter(8, 3, 18, text(9, toHost(2))))), []api.Note{on(3, 6, 8, unlike)}},
		{"to a host, with more hops than there are", two(), letter(6, 4, 3, text(65, toHost(2))), change(posted(letter(8, 3, 18, text(64, toHost(2))))), []api.Note{on(3, 6, 8, unlike)}},
		{"by three triggers, from a host", kept, letter(6, 17, 5, m), change(swept, posted(three...), posted(cached)), ons},
		{"by three triggers, from a server", kept, letter(6, 4, 5, m), change(swept, posted(three...)), ons},
		{"by a trigger, to the server itself", own, letter(6, 4, 5, text(9, toId(a))), change(posted(to(8, 5, text(8, toId(place(70)))))), []api.Note{on(5, 6, 8, trig(a, toId(place(70)), 900))}},
		{"by the next entry", two(), letter(6, 17, 5, text(9, toId(a), toId(b))), change(posted(to(8, 3, text(8, toId(b))), to(9, 17, cache(a, 5)))), []api.Note{on(5, 6, 8, unlike)}},
		{"by the next entry, a host", two(), letter(6, 4, 5, text(9, toId(a), toHost(9))), change(posted(to(8, 25, text(8, toHost(9))))), []api.Note{on(5, 6, 8, unlike)}},
		{"by none, from a host", two(), letter(6, 17, 5, text(9, toId(a))), change(posted(to(8, 17, push(a)))), nil},
		{"by none, from a host that is not there", two(), letter(6, 31, 5, text(9, toId(a))), change(posted(to(8, 31, push(a)))), nil},
		{"by none, from a server", two(), letter(6, 15, 5, text(9, toId(a))), nil, nil},
		{"with no hops, from a host", kept, letter(6, 17, 5, text(0, toId(a))), change(swept, posted(to(8, 17, cache(a, 5)))), nil},
		{"with no hops, from a server", kept, letter(6, 4, 5, text(0, toId(a))), change(swept), nil},
	})
	mustBring(t, []brought{
		{"with room for all", with(kept, crowded(60)), letter(6, 17, 5, m), change(swept, posted(three...), posted(cached)), ons},
		{"with room for three", with(kept, crowded(61)), letter(6, 17, 5, m), change(swept, posted(three...)), append(slices.Clone(ons), lostNote(5, 0, api.ErrFull))},
		{"with room for two", with(kept, crowded(62)), letter(6, 17, 5, m), change(swept, posted(three[:2]...)), append(slices.Clone(ons[:2]), lostNote(5, 0, api.ErrFull), lostNote(5, 0, api.ErrFull))},
		{"with room for one", with(kept, crowded(63)), letter(6, 4, 5, m), change(swept, posted(three[0])), append(slices.Clone(ons[:1]), lostNote(5, 0, api.ErrFull), lostNote(5, 0, api.ErrFull))},
		{"when all numbers are over", with(kept, ended), letter(6, 4, 5, m), change(swept), slices.Repeat([]api.Note{lostNote(5, 0, api.ErrFull)}, 3)},
		{"when one number is left", with(kept, func(w *api.World) { w.Mail.Last = maxTick - 1 }), letter(6, 4, 5, m), change(swept, posted(to(maxTick, 3, text(8, toId(b), toHost(9))))),
			[]api.Note{on(5, 6, maxTick, first), lostNote(5, 0, api.ErrFull), lostNote(5, 0, api.ErrFull)}},
	})
}

func TestBringToAHost(t *testing.T) {
	a, nonce := place(50), "0123456789abcdef"
	wants := with(two(), hosting(2, func(h *api.Host) {
		h.Wants = []api.Want{wanted(a, 77)}
		h.Hints = []api.Hint{hinted(a, 3, 5), hinted(place(9), 3, 5)}
		h.Inbox = []string{"first"}
	}))
	crammed := with(wants, hosting(2, func(h *api.Host) { h.Inbox = slices.Repeat([]string{"x"}, 32) }))
	inbox := func(l ...string) func(w *api.World) { return hosting(2, func(h *api.Host) { h.Inbox = l }) }
	hints := func(l ...api.Hint) func(w *api.World) { return hosting(2, func(h *api.Host) { h.Hints = l }) }
	change := func(l ...func(w *api.World)) []func(w *api.World) { return l }
	var l []brought
	for _, from := range []int{0, 5, 15, 16, 18, 31} {
		l = append(l,
			brought{"data", wants, letter(6, from, 18, data(9, "hi", toHost(2))), change(inbox("first", "hi")), []api.Note{got(2, 6, "hi")}},
			brought{"data with more behind the host", wants, letter(6, from, 18, data(0, "", toHost(2), toId(a))), change(inbox("first", "")), []api.Note{got(2, 6, "")}},
			brought{"data to another host", wants, letter(6, from, 18, data(9, "hi", toHost(1))), nil, []api.Note{lostNote(18, 6, api.ErrArg)}},
			brought{"data to an identifier", wants, letter(6, from, 18, data(9, "hi", toId(a))), nil, []api.Note{lostNote(18, 6, api.ErrArg)}},
			brought{"data to a full inbox", crammed, letter(6, from, 18, data(9, "hi", toHost(2))), nil, []api.Note{lostNote(18, 6, api.ErrFull)}},
			brought{"ask", wants, letter(6, from, 18, ask(a, toHost(2), nonce)), change(posted(letter(8, 18, from, echo(a, toHost(2), 77, nonce)))), nil},
			brought{"ask, when all numbers are over", with(wants, ended), letter(6, from, 18, ask(a, toHost(2), nonce)), nil, []api.Note{lostNote(18, 0, api.ErrFull)}},
			brought{"ask of what is not wanted", wants, letter(6, from, 18, ask(place(51), toHost(2), nonce)), nil, []api.Note{lostNote(18, 6, api.ErrNone)}},
			brought{"ask of another host", wants, letter(6, from, 18, ask(a, toHost(1), nonce)), nil, []api.Note{lostNote(18, 6, api.ErrArg)}},
			brought{"ack", wants, letter(6, from, 18, ack(a, toHost(2))), nil, nil},
			brought{"ack of what is not wanted", wants, letter(6, from, 18, ack(place(51), toHost(2))), nil, []api.Note{lostNote(18, 6, api.ErrNone)}},
			brought{"cache", wants, letter(6, from, 18, cache(a, 5)), change(hints(hinted(place(9), 3, 5), hinted(a, 5, 1100))), nil},
			brought{"cache of no server", wants, letter(6, from, 18, cache(a, 16)), nil, []api.Note{lostNote(18, 6, api.ErrArg)}},
			brought{"push", wants, letter(6, from, 18, push(a)), change(hints(hinted(place(9), 3, 5))), nil},
			brought{"push of what is not hinted", wants, letter(6, from, 18, push(place(10))), nil, nil},
		)
		for _, m := range []api.Msg{insert(a, toHost(2), 5), echo(a, toHost(2), 5, nonce), remove(a, toHost(2), nonce), {Kind: api.MFind, Id: a}, {Kind: api.MFound, Id: a}} {
			l = append(l, brought{"of a kind that no host takes", wants, letter(6, from, 18, m), nil, []api.Note{lostNote(18, 6, api.ErrArg)}})
		}
	}
	mustBring(t, l)
}

// TestPostedWithoutAWay asks of what no act can bring about: a walk from a server that does not live.
func TestPostedWithoutAWay(t *testing.T) {
	for _, from := range []int{0, 4, 17, 31} {
		c := course{World: two()}
		if no := c.post(from, api.Send{To: -1, Msg: data(9, "hi", toId(place(50)))}); no != 0 {
			t.Errorf("letter %d", no)
		}
		if !same(c.World, two()) || !slices.Equal(c.notes, []api.Note{lostNote(from, 0, api.ErrDown)}) {
			t.Errorf("%+v, %+v", c.World, c.notes)
		}
	}
}
