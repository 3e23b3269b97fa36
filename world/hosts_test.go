package world

import (
	"math"
	"slices"
	"strings"
	"testing"

	"posthouse/api"
)

func ofHost(kind, no int, change ...func(a *api.Act)) api.Act {
	a := api.Act{Kind: kind, No: no}
	for _, c := range change {
		c(&a)
	}
	return a
}

func want(no int, id api.Id, life int) api.Act {
	return api.Act{Kind: api.WWant, No: no, Id: id, N: life}
}

func sendTo(no int, text string, l ...api.Entry) api.Act {
	return api.Act{Kind: api.WSend, No: no, Stack: l, Data: text}
}

func link(no int, id api.Id, life int, l ...api.Entry) api.Act {
	return api.Act{Kind: api.WLink, No: no, Id: id, N: life, Stack: l}
}

// crowded is a change: so many letters are on their way.
func crowded(many int) func(w *api.World) {
	return func(w *api.World) {
		w.Mail.Flight = slices.Repeat([]api.Letter{{No: 7, From: 4, To: 30, Data: "x"}}, many)
	}
}

// ended is a change: the last letter that there may be was posted.
func ended(w *api.World) { w.Mail.Last = maxTick }

func lostNote(no, was int, why api.Errno) api.Note {
	return api.Note{Kind: api.NLost, At: 100, No: no, Was: was, Why: why}
}

func TestNewHost(t *testing.T) {
	newHost := func(no, gate int) api.Act { return api.Act{Kind: api.WHost, No: no, To: gate} }
	hosts := func(w api.World, l ...api.Host) api.World { return with(w, func(w *api.World) { w.Hosts = l }) }
	one, three, eight := api.Host{No: 1, Gate: 3}, api.Host{No: 3, Gate: 3, Wants: []api.Want{wanted(place(1), 5)}}, api.Host{No: 8}
	some := hosts(two(), one, three, eight)
	mustHappen(t, []happening{
		{"the first one", api.World{}, newHost(4, 9), hosts(api.World{}, api.Host{No: 4, Gate: 9}), nil},
		{"ahead of all", some, newHost(0, 15), hosts(two(), api.Host{No: 0, Gate: 15}, one, three, eight), nil},
		{"between", some, newHost(2, 0), hosts(two(), one, api.Host{No: 2, Gate: 0}, three, eight), nil},
		{"behind all", some, newHost(15, 1), hosts(two(), one, three, eight, api.Host{No: 15, Gate: 1}), nil},
	})
	l := []refusal{{"there", some, newHost(1, 3), api.ErrTwice}, {"there, of another gate", some, newHost(8, 15), api.ErrTwice}}
	for _, n := range []int{-1, 16, 17, math.MaxInt, math.MinInt} {
		l = append(l, refusal{"a number", some, newHost(n, 3), api.ErrArg}, refusal{"a gate", some, newHost(0, n), api.ErrArg},
			refusal{"a gate of one that is there", some, newHost(3, n), api.ErrArg}, refusal{"a number of none", api.World{}, newHost(n, n), api.ErrArg})
	}
	for no := range 16 {
		l = append(l, refusal{"all there", full(), newHost(no, 3), api.ErrTwice})
	}
	mustRefuse(t, l)
}

func TestWants(t *testing.T) {
	a, b := place(50), place(90)
	none := with(two(), posted(api.Letter{No: 9}))
	wants := func(l ...api.Want) api.World {
		return with(none, hosting(2, func(h *api.Host) { h.Wants = l }), hosting(1, func(h *api.Host) { h.Inbox = []string{"x"} }))
	}
	unwant := func(no int, id api.Id) api.Act { return api.Act{Kind: api.WUnwant, No: no, Id: id} }
	mustHappen(t, []happening{
		{"a first want", wants(), want(2, a, 1), wants(wanted(a, 1)), nil},
		{"a second one", wants(wanted(b, 5)), want(2, a, maxLife), wants(wanted(b, 5), wanted(a, maxLife)), nil},
		{"no more", wants(wanted(b, 5), wanted(a, 6)), unwant(2, b), wants(wanted(a, 6)), nil},
	})
	crowd := with(full(), func(w *api.World) { w.Hosts = slices.Delete(w.Hosts, 4, 5) })
	mustRefuse(t, []refusal{
		{"a life of none", wants(), want(2, a, 0), api.ErrArg},
		{"a life below 0", wants(), want(2, a, -1), api.ErrArg},
		{"a life too long", wants(), want(2, a, maxLife+1), api.ErrArg},
		{"twice", wants(wanted(a, 5)), want(2, a, 6), api.ErrTwice},
		{"twice, of a life too long", wants(wanted(a, 5)), want(2, a, maxLife+1), api.ErrArg},
		{"too many", full(), want(5, place(99), 6), api.ErrFull},
		{"not wanted", wants(wanted(a, 5)), unwant(2, b), api.ErrNone},
		{"not wanted by any", wants(), unwant(1, b), api.ErrNone},
		{"not there", crowd, want(4, a, 0), api.ErrNone},
		{"not there", crowd, unwant(4, place(1)), api.ErrNone},
		{"a life of none, and no host", two(), want(3, a, 0), api.ErrNone},
	})
}

func TestOfHostsThatAreNotThere(t *testing.T) {
	for _, w := range []api.World{{}, two(), four()} {
		for _, no := range []int{-1, 0, 3, 5, 15, 16, 17, 18, math.MaxInt, math.MinInt} {
			// All else may be, or nothing: that the host is not there is told first.
			for _, kind := range []int{api.WWant, api.WUnwant, api.WAsk, api.WSend, api.WLink} {
				may := api.Act{Kind: kind, No: no, N: 5, Id: place(50), Stack: []api.Entry{toId(place(51))}, Data: "hi"}
				mayNot := api.Act{Kind: kind, No: no, N: -1, Stack: make([]api.Entry, 5), Data: strings.Repeat("x", 65)}
				mustRefuse(t, []refusal{{"all else may be", w, may, api.ErrNone}, {"nothing may be", w, mayNot, api.ErrNone}})
			}
		}
	}
}

func TestAsk(t *testing.T) {
	a, b, c := place(50), place(90), place(10)
	asks := func(no int) api.Act { return api.Act{Kind: api.WAsk, No: no} }
	three := with(two(), hosting(2, func(h *api.Host) {
		h.Wants = []api.Want{wanted(b, 7), wanted(a, 9), wanted(c, maxLife)}
		h.Hints = []api.Hint{hinted(a, 3, 101), hinted(b, 12, 100), hinted(c, 12, maxTick)}
	}))
	first, second, third := letter(8, 18, 5, insert(b, toHost(2), 7)), letter(9, 18, 3, insert(a, toHost(2), 9)), letter(10, 18, 12, insert(c, toHost(2), maxLife))
	behind := func(many int, l ...api.Letter) api.World { return with(three, crowded(many), posted(l...)) }
	mustHappen(t, []happening{
		{"nothing wanted", two(), asks(1), two(), nil},
		{"three", three, asks(2), with(three, posted(first, second, third)), nil},
		{"three, behind others", with(three, crowded(61)), asks(2), behind(61, first, second, third), nil},
		{"three, with room for two", with(three, crowded(62)), asks(2), behind(62, first, second), []api.Note{lostNote(18, 0, api.ErrFull)}},
		{"three, with no room", with(three, crowded(64)), asks(2), with(three, crowded(64)), slices.Repeat([]api.Note{lostNote(18, 0, api.ErrFull)}, 3)},
		{"three, when all numbers are over", with(three, ended), asks(2), with(three, ended), slices.Repeat([]api.Note{lostNote(18, 0, api.ErrFull)}, 3)},
		{"of the one that wants nothing", with(three, crowded(64)), asks(1), with(three, crowded(64)), nil},
	})
}

func TestSend(t *testing.T) {
	a, long := place(50), strings.Repeat("x", 64)
	hinted := with(two(), hosting(1, func(h *api.Host) { h.Hints = []api.Hint{hinted(a, 12, 101), hinted(place(51), 12, 100)} }))
	sent := func(from int, text string) []api.Note {
		return []api.Note{{Kind: api.NSend, At: 100, No: from, Letter: 8, Data: text}}
	}
	deep := []api.Entry{toId(a), toHost(9), toId(place(1)), toHost(0)}
	mustHappen(t, []happening{
		{"to an identifier", two(), sendTo(1, "hi", toId(a)), with(two(), posted(letter(8, 17, 3, data(64, "hi", toId(a))))), sent(1, "hi")},
		{"to a host", two(), sendTo(2, "", toHost(1)), with(two(), posted(letter(8, 18, 5, data(64, "", toHost(1))))), sent(2, "")},
		{"by a hint", hinted, sendTo(1, long, deep...), with(hinted, posted(letter(8, 17, 12, data(64, long, deep...)))), sent(1, long)},
		{"by a hint that is over", hinted, sendTo(1, "hi", toId(place(51)), toId(a)), with(hinted, posted(letter(8, 17, 3, data(64, "hi", toId(place(51)), toId(a))))), sent(1, "hi")},
		{"behind others", with(two(), crowded(63)), sendTo(1, "hi", toId(a)), with(two(), crowded(63), posted(letter(8, 17, 3, data(64, "hi", toId(a))))), sent(1, "hi")},
		{"no room", with(two(), crowded(64)), sendTo(1, "hi", toId(a)), with(two(), crowded(64)), []api.Note{lostNote(17, 0, api.ErrFull)}},
		{"all numbers are over", with(two(), ended), sendTo(2, "hi", toHost(2)), with(two(), ended), []api.Note{lostNote(18, 0, api.ErrFull)}},
	})
	l := []refusal{
		{"no stack", two(), sendTo(1, "hi"), api.ErrArg},
		{"no stack, and data too long", two(), sendTo(1, strings.Repeat("x", 65)), api.ErrArg},
		{"too deep", two(), sendTo(1, "hi", append(deep, toHost(1))...), api.ErrArg},
		{"data too long", two(), sendTo(1, strings.Repeat("x", 65), toId(a)), api.ErrLong},
		{"data far too long, and no room", with(two(), crowded(64)), sendTo(1, strings.Repeat("x", 650), toId(a)), api.ErrLong},
	}
	for _, e := range wrongEntries() {
		l = append(l, refusal{"an entry", two(), sendTo(1, "hi", e), api.ErrArg}, refusal{"a second entry", two(), sendTo(1, "hi", toId(a), e), api.ErrArg})
	}
	mustRefuse(t, l)
}

func wrongEntries() []api.Entry {
	return []api.Entry{
		{}, {Host: 3}, {Id: place(1)}, {Kind: 3}, {Kind: -1}, {Kind: 257}, {Kind: math.MaxInt},
		{Kind: api.EId, Host: 1}, {Kind: api.EId, Id: place(50), Host: -1},
		{Kind: api.EHost, Id: api.Id{31: 1}}, {Kind: api.EHost, Id: place(50), Host: 3},
		toHost(-1), toHost(16), toHost(256), toHost(math.MaxInt), toHost(math.MinInt),
	}
}

func TestLink(t *testing.T) {
	a, b := place(50), place(90)
	// It goes to the gate, whatever is hinted.
	hinted := with(two(), hosting(2, func(h *api.Host) { h.Hints = []api.Hint{hinted(a, 12, 900), hinted(b, 12, 900)} }))
	mustHappen(t, []happening{
		{"a link", two(), link(1, a, 1, toId(b)), with(two(), posted(letter(8, 17, 3, insert(a, toId(b), 1)))), nil},
		{"a long one, to itself", hinted, link(2, a, maxLife, toId(a)), with(hinted, posted(letter(8, 18, 5, insert(a, toId(a), maxLife)))), nil},
		{"of zeros", two(), link(1, api.Id{}, 9, toId(api.Id{})), with(two(), posted(letter(8, 17, 3, insert(api.Id{}, toId(api.Id{}), 9)))), nil},
		{"behind others", with(two(), crowded(63)), link(1, a, 1, toId(b)), with(two(), crowded(63), posted(letter(8, 17, 3, insert(a, toId(b), 1)))), nil},
		{"no room", with(two(), crowded(64)), link(1, a, 1, toId(b)), with(two(), crowded(64)), []api.Note{lostNote(17, 0, api.ErrFull)}},
		{"all numbers are over", with(two(), ended), link(2, a, 1, toId(b)), with(two(), ended), []api.Note{lostNote(18, 0, api.ErrFull)}},
	})
	l := []refusal{
		{"no entry", two(), link(1, a, 5), api.ErrArg}, {"two", two(), link(1, a, 5, toId(b), toId(b)), api.ErrArg},
		{"a host", two(), link(1, a, 5, toHost(1)), api.ErrArg}, {"a host of 0", two(), link(1, a, 5, toHost(0)), api.ErrArg},
		{"an identifier and a host", two(), link(1, a, 5, toId(b), toHost(1)), api.ErrArg}, {"five", two(), link(1, a, 5, slices.Repeat([]api.Entry{toId(b)}, 5)...), api.ErrArg},
	}
	for _, n := range []int{0, -1, maxLife + 1, maxTick, math.MaxInt, math.MinInt} {
		l = append(l, refusal{"a life", two(), link(1, a, n, toId(b)), api.ErrArg})
	}
	for _, e := range wrongEntries() {
		l = append(l, refusal{"an entry", two(), link(1, a, 5, e), api.ErrArg})
	}
	mustRefuse(t, l)
}
