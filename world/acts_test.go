package world

import (
	"math"
	"slices"
	"strings"
	"testing"

	"posthouse/api"
	"posthouse/chord"
)

// happening is an act in a world, with what should come of it.
type happening struct {
	what  string
	world api.World
	act   api.Act
	then  api.World
	notes []api.Note
}

func mustHappen(t *testing.T, l []happening) {
	t.Helper()
	for _, c := range l {
		w, notes, err := step(t, c.world, c.act)
		if !same(w, c.then) || err != api.OK {
			t.Errorf("%s: %d, %+v, want %+v", c.what, err, clone(w), clone(c.then))
		}
		if !slices.Equal(notes, c.notes) {
			t.Errorf("%s: notes %+v, want %+v", c.what, notes, c.notes)
		}
	}
}

// refusal is an act in a world, with the error that it tells.
type refusal struct {
	what  string
	world api.World
	act   api.Act
	err   api.Errno
}

func mustRefuse(t *testing.T, l []refusal) {
	t.Helper()
	for _, c := range l {
		if _, _, err := step(t, c.world, c.act); err != c.err {
			t.Errorf("%s: %d, want %d", c.what, err, c.err)
		}
	}
}

func join(no int, id api.Id, secret string) api.Act {
	return api.Act{Kind: api.WJoin, No: no, Id: id, Data: secret}
}

// joined is a world to which a server has come, that knows just the one that follows it.
func joined(w api.World, no int, id api.Id, secret string, succ api.Member) api.World {
	return with(w, func(w *api.World) {
		m := api.Member{No: no, Id: id}
		n := api.Node{Self: m, Pred: nobody(), Succs: []api.Member{succ}}
		place := 0
		for place < len(w.Servers) && w.Servers[place].No < no {
			place++
		}
		w.Overlay.Nodes = slices.Insert(w.Overlay.Nodes, place, n)
		w.Servers = slices.Insert(w.Servers, place, api.Server{No: no, Secret: secret})
	})
}

// ringIds are identifiers in their order: just at and just behind those at 40, 60 and 80, and between them.
func ringIds() []api.Id {
	behind := func(b byte) api.Id {
		id := last(b)
		id[15]++
		clear(id[16:])
		return id
	}
	return []api.Id{{}, place(39), last(40), behind(40), place(50), last(60), behind(60), place(70), last(80), behind(80), place(200)}
}

// some are triggers of ringIds, of some places there: the time of most of them is over at 100.
func some(places ...int) []api.Trigger {
	var l []api.Trigger
	for _, i := range places {
		l = append(l, trig(ringIds()[i], toHost(i), 12*i))
	}
	return l
}

func everySome() []api.Trigger { return some(0, 1, 2, 3, 4, 5, 6, 7, 8, 9, 10) }

// thirtyTwo are triggers that fill a table, of what begins with 41 to 72.
func thirtyTwo() []api.Trigger {
	var l []api.Trigger
	for i := range 32 {
		l = append(l, trig(place(byte(41+i)), toHost(i%16), 300+i))
	}
	return l
}

func TestJoin(t *testing.T) {
	three, five := at(3, 40), at(5, 80)
	both := with(two(), keeping(3, everySome()...), keeping(5, everySome()...))
	one := with(over(settled(three)), keeping(3, everySome()...))
	hosts := api.World{Hosts: two().Hosts, Mail: two().Mail}
	untended := with(joined(both, 4, last(60), "s", five), keeping(4, everySome()...))
	pointing := with(two(), func(w *api.World) { w.Overlay.Nodes[0].Fingers = []api.Member{{No: 9, Id: last(60)}} })
	long := strings.Repeat("x", 64)
	mustHappen(t, []happening{
		{"the first of all", api.World{}, join(7, last(90), "s"), joined(api.World{}, 7, last(90), "s", at(7, 90)), nil},
		{"the first of all, to hosts", hosts, join(0, last(0), ""), joined(hosts, 0, last(0), "", at(0, 0)), nil},
		{"between two", both, join(4, last(60), "new"),
			with(joined(both, 4, last(60), "new", five), keeping(4, some(3, 4, 5)...), keeping(5, some(0, 1, 2, 6, 7, 8, 9, 10)...)), nil},
		{"ahead of the ring's end", both, join(15, last(255), long),
			with(joined(both, 15, last(255), long, three), keeping(15, some(9, 10)...), keeping(3, some(0, 1, 2, 3, 4, 5, 6, 7, 8)...)), nil},
		{"behind the ring's end", both, join(0, last(39), "\x00"),
			with(joined(both, 0, last(39), "\x00", three), keeping(0, some(0, 9, 10)...), keeping(3, some(1, 2, 3, 4, 5, 6, 7, 8)...)), nil},
		{"ahead of one alone", one, join(2, last(20), "s"),
			with(joined(one, 2, last(20), "s", three), keeping(2, some(0, 3, 4, 5, 6, 7, 8, 9, 10)...), keeping(3, some(1, 2)...)), nil},
		{"behind one alone", one, join(9, last(60), "s"),
			with(joined(one, 9, last(60), "s", three), keeping(9, some(3, 4, 5)...), keeping(3, some(0, 1, 2, 6, 7, 8, 9, 10)...)), nil},
		{"a full table is given", with(two(), keeping(5, thirtyTwo()...)), join(9, last(79), "s"), with(joined(two(), 9, last(79), "s", five), keeping(9, thirtyTwo()...)), nil},
		{"ahead of one that no other one knows", untended, join(6, last(50), "s"),
			with(joined(untended, 6, last(50), "s", at(4, 60)), keeping(6, some(3)...), keeping(4, some(0, 1, 2, 4, 5, 6, 7, 8, 9, 10)...)), nil},
		{"behind one that no other one knows", untended, join(6, last(70), "s"),
			with(joined(untended, 6, last(70), "s", five), keeping(6, some(6)...), keeping(5, some(0, 1, 2, 3, 4, 5, 7, 8, 9, 10)...)), nil},
		{"one that is known", pointing, join(9, last(60), "s"), joined(pointing, 9, last(60), "s", five), nil},
	})
}

// TestJoinOfSixteen has servers come until there are all that there may be.
func TestJoinOfSixteen(t *testing.T) {
	var w api.World
	for i := range 16 {
		no := i * 5 % 16
		then, notes, err := step(t, w, join(no, last(byte(100-i)), "s"))
		if err != api.OK || len(notes) > 0 || len(then.Servers) != i+1 {
			t.Fatalf("%d: %d, %+v", no, err, notes)
		}
		w = then
	}
	for no := -1; no < 18; no++ {
		want := api.ErrTwice
		if no < 0 || no > 15 {
			want = api.ErrArg
		}
		if _, _, err := step(t, w, join(no, last(200), "s")); err != want {
			t.Errorf("%d: %d", no, err)
		}
	}
}

func TestJoinRefused(t *testing.T) {
	known := with(two(), func(w *api.World) { w.Overlay.Nodes[0].Fingers = []api.Member{{No: 9, Id: last(61)}} })
	long := strings.Repeat("x", 65)
	l := []refusal{
		{"a secret too long", two(), join(4, last(60), long), api.ErrArg},
		{"a secret too long, to none", api.World{}, join(4, last(60), long), api.ErrArg},
		{"a secret too long, of one that is there", two(), join(3, last(60), long), api.ErrArg},
		{"a number that is there", two(), join(3, last(60), "s"), api.ErrTwice},
		{"a number that is there, with its identifier", two(), join(5, last(80), "s"), api.ErrTwice},
		{"an identifier that is there", two(), join(4, last(80), "s"), api.ErrTwice},
		{"a number that is known as another one", known, join(9, last(60), "s"), api.ErrTwice},
		{"an identifier that is not the last one, of one that is there", two(), join(3, place(60), "s"), api.ErrArg},
	}
	for _, no := range []int{-1, 16, 17, math.MaxInt, math.MinInt} {
		l = append(l, refusal{"a number", two(), join(no, last(60), "s"), api.ErrArg}, refusal{"a number, to none", api.World{}, join(no, last(60), "s"), api.ErrArg},
			refusal{"a number, and an identifier that is there", two(), join(no, last(80), "s"), api.ErrArg})
	}
	for i := 16; i < 32; i++ {
		id := last(60)
		id[i] = 254
		l = append(l, refusal{"an identifier", two(), join(4, id, "s"), api.ErrArg}, refusal{"an identifier, to none", api.World{}, join(4, id, "s"), api.ErrArg})
	}
	mustRefuse(t, l)
}

// without is a world of which a server is gone, and the overlay is another one.
func without(w api.World, no int, o api.Overlay) api.World {
	return with(w, func(w *api.World) {
		w.Overlay = o
		w.Servers = slices.DeleteFunc(w.Servers, func(s api.Server) bool { return s.No == no })
	})
}

func leave(no int) api.Act { return api.Act{Kind: api.WLeave, No: no} }

func fail(no int) api.Act { return api.Act{Kind: api.WFail, No: no} }

// four is a world of servers whose numbers stand round the ring in another order: 3 at 40, 9 at 60, 5 at 80, 1 at 100.
func four() api.World { return over(settled(at(3, 40), at(9, 60), at(5, 80), at(1, 100))) }

func TestLeave(t *testing.T) {
	left := func(w api.World, no int) api.World {
		o, err := chord.Leave(w.Overlay, no)
		if err != api.OK {
			t.Fatal(err)
		}
		return without(w, no, o)
	}
	mine, other := trig(place(50), toHost(1), 9), trig(place(70), toHost(2), 400)
	longer, shorter := trig(place(50), toHost(1), 12), trig(place(70), toHost(2), 399)
	both := with(two(), keeping(5, mine, other), keeping(3, longer, shorter, trig(place(50), toHost(2), 7)))
	many := thirtyTwo()
	alone := with(over(settled(at(6, 10))), keeping(6, mine))
	untended := with(joined(two(), 4, last(60), "s", at(5, 80)), keeping(3, mine), keeping(4, other))
	mustHappen(t, []happening{
		{"one of two", both, leave(5), with(left(both, 5), keeping(3, longer, other, trig(place(50), toHost(2), 7))), nil},
		{"the other one", both, leave(3), with(left(both, 3), keeping(5, longer, other, trig(place(50), toHost(2), 7))), nil},
		{"one alone", alone, leave(6), api.World{}, nil},
		{"one of four", with(four(), keeping(9, mine)), leave(9), with(left(four(), 9), keeping(5, mine)), nil},
		{"the last one round the ring", with(four(), keeping(1, mine)), leave(1), with(left(four(), 1), keeping(3, mine)), nil},
		{"no room", with(two(), keeping(5, mine, other), keeping(3, many...)), leave(5), with(left(two(), 5), keeping(3, many...)), nil},
		{"room for one", with(two(), keeping(5, trig(place(10), toHost(4), 5), trig(place(11), toHost(4), 5)), keeping(3, many[1:]...)), leave(5),
			with(left(two(), 5), keeping(3, append(many[1:], trig(place(10), toHost(4), 5))...)), nil},
		{"room for just what is there", with(two(), keeping(5, trig(place(10), toHost(4), 5), trig(many[7].Id, many[7].Target, 999)), keeping(3, many...)), leave(5),
			with(left(two(), 5), keeping(3, slices.Concat(many[:7], []api.Trigger{trig(many[7].Id, many[7].Target, 999)}, many[8:])...)), nil},
		{"to one that it does not know", untended, leave(3), with(left(untended, 3), keeping(4, mine, other)), nil},
		{"of one that no other one knows", untended, leave(4), with(left(untended, 4), keeping(5, other), keeping(3, mine)), nil},
	})
}

func TestFail(t *testing.T) {
	mine := trig(place(50), toHost(1), 900)
	both := with(two(), keeping(5, mine), keeping(3, trig(place(90), toHost(2), 5)))
	failed := func(w api.World, no int) api.World {
		o, err := chord.Fail(w.Overlay, no)
		if err != api.OK {
			t.Fatal(err)
		}
		return without(w, no, o)
	}
	mustHappen(t, []happening{
		{"one of two", both, fail(5), failed(both, 5), nil},
		{"the other one", both, fail(3), failed(both, 3), nil},
		{"one alone", with(over(settled(at(6, 10))), keeping(6, mine)), fail(6), api.World{}, nil},
		{"one of four", with(four(), keeping(9, mine)), fail(9), failed(four(), 9), nil},
	})
}

func TestOfServersThatDoNotLive(t *testing.T) {
	known := with(two(), func(w *api.World) { w.Overlay.Nodes[0].Fingers = []api.Member{{No: 9, Id: last(61)}} })
	for _, w := range []api.World{{}, two(), known, four()} {
		for _, no := range []int{-1, 0, 2, 4, 8, 10, 16, 19, math.MaxInt, math.MinInt} {
			mustRefuse(t, []refusal{{"leave", w, leave(no), api.ErrDown}, {"fail", w, fail(no), api.ErrDown}})
		}
	}
	mustRefuse(t, []refusal{{"leave", known, leave(9), api.ErrDown}, {"fail", known, fail(9), api.ErrDown}})
}

func TestRound(t *testing.T) {
	round := api.Act{Kind: api.WRound}
	w := with(joined(with(four(), keeping(9, thirtyTwo()...)), 4, last(70), "s", at(5, 80)), func(w *api.World) {
		w.Hosts, w.Mail = two().Hosts, two().Mail
	})
	for range 3 {
		o, err := chord.Round(w.Overlay)
		if err != api.OK {
			t.Fatal(err)
		}
		then := with(w, func(w *api.World) { w.Overlay = o })
		mustHappen(t, []happening{{"a round", w, round, then, nil}})
		w = then
	}
	if !chord.Stable(w.Overlay) {
		t.Error("not stable")
	}
	mustHappen(t, []happening{{"of none", api.World{}, round, api.World{}, nil}})
}

func TestPass(t *testing.T) {
	for _, c := range []struct{ now, ticks, then int }{
		{0, 0, 0}, {0, 1, 1}, {100, 23, 123}, {100, maxTick, maxTick}, {maxTick - 5, 5, maxTick}, {maxTick - 5, 6, maxTick}, {maxTick, 1, maxTick}, {7, math.MaxInt, maxTick},
	} {
		w := with(full(), func(w *api.World) { w.Mail.Now = c.now })
		mustHappen(t, []happening{{"a while", w, api.Act{Kind: api.WPass, N: c.ticks}, with(w, func(w *api.World) { w.Mail.Now = c.then }), nil}})
		mustRefuse(t, []refusal{{"backwards", w, api.Act{Kind: api.WPass, N: -1}, api.ErrArg}, {"far backwards", w, api.Act{Kind: api.WPass, N: math.MinInt}, api.ErrArg}})
	}
}

func TestMail(t *testing.T) {
	a, b, c := api.Letter{No: 4, To: 3, Data: "a"}, api.Letter{No: 6, From: 31, To: 9, Data: "b"}, api.Letter{No: 4, To: 3, Data: "a"}
	flight := func(l ...api.Letter) api.World { return with(two(), func(w *api.World) { w.Mail.Flight = l }) }
	of := func(kind, n int) api.Act { return api.Act{Kind: kind, N: n, No: 7} }
	mustHappen(t, []happening{
		{"twice", flight(a, b), of(api.WTwice, 0), flight(a, b, c), nil},
		{"twice the last one", flight(a, b), of(api.WTwice, 1), flight(a, b, b), nil},
		{"lose", flight(a, b, c), of(api.WLose, 1), flight(a, c), nil},
		{"lose the only one", flight(b), of(api.WLose, 0), flight(), nil},
		{"last", flight(b, a, a), of(api.WLast, 0), flight(a, a, b), nil},
		{"last of the last one", flight(a, b), of(api.WLast, 1), flight(a, b), nil},
	})
	var l []refusal
	for _, kind := range []int{api.WBring, api.WTwice, api.WLose, api.WLast} {
		for _, n := range []int{-1, 2, 3, 64, math.MaxInt, math.MinInt} {
			l = append(l, refusal{"no letter", flight(a, b), of(kind, n), api.ErrNone})
		}
		l = append(l, refusal{"no letters", two(), of(kind, 0), api.ErrNone}, refusal{"nothing", api.World{}, of(kind, 0), api.ErrNone},
			refusal{"behind all", full(), of(kind, 64), api.ErrNone})
	}
	mustRefuse(t, append(l, refusal{"too many", full(), of(api.WTwice, 63), api.ErrFull}))
}
