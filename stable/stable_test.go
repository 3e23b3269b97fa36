package stable

import (
	"math"
	"slices"
	"strings"
	"testing"

	"posthouse/api"
	"posthouse/chord"
	"posthouse/world"
)

// four is a world of servers whose numbers stand round the ring in another order: 3 at 40, 9 at 60, 5 at 80, 1 at 100.
func four() api.World {
	return with(over(settled(at(3, 40), at(9, 60), at(5, 80), at(1, 100))), func(w *api.World) { w.Mail.Now = 100 })
}

// noding is a change of what a server knows.
func noding(no int, change func(n *api.Node)) func(w *api.World) {
	return func(w *api.World) {
		change(&w.Overlay.Nodes[slices.IndexFunc(w.Overlay.Nodes, func(n api.Node) bool { return n.Self.No == no })])
	}
}

// behind is the identifier that is next to another one.
func behind(a api.Id) api.Id {
	for i := 31; i >= 0; i-- {
		a[i]++
		if a[i] != 0 {
			break
		}
	}
	return a
}

func TestIs(t *testing.T) {
	var sixteen []api.Member
	for no := range 16 {
		sixteen = append(sixteen, at(no, byte(90+7*no)))
	}
	here, there := trig(place(50), toHost(1), 101), trig(place(90), toId(place(50)), 101)
	noted := func(x api.Trigger, until int) api.Trigger { x.Until = until; return x }
	for _, c := range []struct {
		what  string
		world api.World
		is    bool
	}{
		{"nothing", api.World{}, true},
		{"hosts alone", api.World{Hosts: two().Hosts, Mail: two().Mail}, true},
		{"lists of nothing", api.World{Servers: []api.Server{}, Overlay: api.Overlay{Nodes: []api.Node{}}}, true},
		{"one server", with(over(settled(at(3, 40))), keeping(3, here, there)), true},
		{"two", two(), true},
		{"four", four(), true},
		{"sixteen", over(settled(sixteen...)), true},
		{"letters on their way", with(two(), posted(letter(8, 17, 3, insert(place(50), toHost(1), 5)), api.Letter{No: 9, Data: "no message"})), true},
		{"each trigger where it belongs", with(two(), keeping(5, here), keeping(3, there)), true},
		{"a trigger at the other server", with(two(), keeping(3, here, there)), false},
		{"a trigger at the other server, behind", with(two(), keeping(5, here, there)), false},
		{"both at the other one", with(two(), keeping(3, here), keeping(5, there)), false},
		{"one at both", with(two(), keeping(3, here), keeping(5, here)), false},
		{"one at the other server, its time is over", with(two(), keeping(3, noted(here, 100), there)), true},
		{"one at the other server, its time is long over", with(two(), keeping(3, noted(here, 0), there)), true},
		{"one at the other server, for long", with(two(), keeping(3, noted(here, maxTick), there)), false},
		{"one at the other server, at the last time", with(two(), keeping(3, noted(here, maxTick)), func(w *api.World) { w.Mail.Now = maxTick }), true},
		{"one at the other server, at the first time", with(two(), keeping(3, noted(here, 1)), func(w *api.World) { w.Mail.Now = 0 }), false},
		{"one at the other server, over at the first time", with(two(), keeping(3, noted(here, 0)), func(w *api.World) { w.Mail.Now = 0 }), true},
		{"a trigger two servers too far", with(four(), keeping(5, here)), false},
		{"a trigger ahead of its server", with(four(), keeping(3, here)), false},
		{"a trigger at its server of four", with(four(), keeping(9, here), keeping(1, there)), true},
		{"who is ahead is not known", with(two(), noding(5, func(n *api.Node) { n.Pred = nobody() })), false},
		{"it is thought to be alone", with(two(), noding(5, func(n *api.Node) { n.Succs = []api.Member{n.Self} })), false},
		{"those that follow are too few", with(four(), noding(9, func(n *api.Node) { n.Succs = n.Succs[:2] })), false},
		{"another one is ahead", with(four(), noding(9, func(n *api.Node) { n.Pred = at(1, 100) })), false},
		{"fingers", with(four(), noding(9, func(n *api.Node) { n.Fingers = []api.Member{at(1, 100), {No: 12, Id: place(3)}} })), true},
		{"a world that may not be, in a stable overlay", with(two(), func(w *api.World) { w.Mail.Now = -1 }), false},
	} {
		was := clone(c.world)
		if Is(c.world) != c.is {
			t.Errorf("%s: not %v", c.what, c.is)
		}
		if !same(c.world, was) {
			t.Errorf("%s: changed to %+v", c.what, c.world)
		}
	}
}

// TestIsAtTheEnds has triggers just at a server, just behind it, and at both ends of all identifiers.
func TestIsAtTheEnds(t *testing.T) {
	owners := map[api.Id]int{
		{}: 3, last(40): 3, behind(last(40)): 9, last(60): 9, behind(last(60)): 5, last(80): 5, behind(last(80)): 1, last(100): 1, behind(last(100)): 3, last(255): 3,
	}
	for a, owner := range owners {
		for _, no := range []int{1, 3, 5, 9} {
			w := with(four(), keeping(no, trig(a, toHost(2), 101)))
			if Is(w) != (no == owner) {
				t.Errorf("%v of %x at %d", Is(w), a, no)
			}
		}
	}
}

func TestOfWorldsThatMayNotBe(t *testing.T) {
	for _, c := range wrongWorlds() {
		was := clone(c.world)
		if Is(c.world) {
			t.Errorf("%s: stable", c.what)
		}
		if l, err := Triggers(c.world); len(l) > 0 || err != api.ErrArg {
			t.Errorf("%s: triggers %d, %+v", c.what, err, l)
		}
		for _, order := range [][]int{nil, {}, {0}, {-1, 5}} {
			if w, notes, err := Drain(c.world, order...); !isZero(w) || len(notes) > 0 || err != api.ErrArg {
				t.Errorf("%s: drained %d, %+v, %+v", c.what, err, w, notes)
			}
		}
		if !same(c.world, was) {
			t.Errorf("%s: changed to %+v", c.what, c.world)
		}
	}
}

// thirtyTwo are triggers that fill a table, of what begins with 41 to 72.
func thirtyTwo() []api.Trigger {
	var l []api.Trigger
	for i := range 32 {
		l = append(l, trig(place(byte(41+i)), toHost(i%16), 300+i))
	}
	return l
}

func TestTriggers(t *testing.T) {
	a, b, c := trig(place(30), toHost(1), 101), trig(place(50), toId(place(30)), maxTick), trig(place(50), toHost(0), 500)
	until := func(x api.Trigger, n int) api.Trigger { x.Until = n; return x }
	all := thirtyTwo()
	more := trig(place(99), toHost(1), 101)
	for _, x := range []struct {
		what  string
		world api.World
		want  []api.Trigger
		err   api.Errno
	}{
		{"nothing", api.World{}, nil, api.OK},
		{"no triggers", two(), nil, api.OK},
		{"of one server", with(two(), keeping(3, a, b, c)), []api.Trigger{a, b, c}, api.OK},
		{"of two", with(two(), keeping(3, b), keeping(5, a, c)), []api.Trigger{a, b, c}, api.OK},
		{"of four, at any", with(four(), keeping(1, c), keeping(9, b), keeping(5, a)), []api.Trigger{a, b, c}, api.OK},
		{"time that is over", with(two(), keeping(3, until(b, 100), until(a, 0)), keeping(5, c)), []api.Trigger{c}, api.OK},
		{"all times are over", with(two(), keeping(3, until(b, 100)), keeping(5, until(c, 99))), nil, api.OK},
		{"one at two, the first one is longer", with(two(), keeping(3, a, until(b, 900)), keeping(5, until(b, 101))), []api.Trigger{a, until(b, 900)}, api.OK},
		{"one at two, the second one is longer", with(two(), keeping(3, a, until(b, 900)), keeping(5, until(b, 901))), []api.Trigger{a, until(b, 901)}, api.OK},
		{"one at two, the time of one is over", with(two(), keeping(3, a, until(b, 100)), keeping(5, until(b, 900))), []api.Trigger{a, until(b, 900)}, api.OK},
		{"an overlay that is not stable", with(two(), keeping(3, a), keeping(5, b), noding(5, func(n *api.Node) { n.Pred = nobody() })), []api.Trigger{a, b}, api.OK},
		{"letters on their way", with(two(), keeping(3, a), posted(letter(8, 17, 3, insert(place(50), toHost(1), 5)))), []api.Trigger{a}, api.OK},
		{"32 of one", with(two(), keeping(5, all...)), all, api.OK},
		{"32 of two", with(two(), keeping(5, all[:9]...), keeping(3, all[9:]...)), all, api.OK},
		{"32, some of them twice", with(two(), keeping(5, all[:29]...), keeping(3, all[3:]...)), all, api.OK},
		{"32 at both", with(two(), keeping(5, all...), keeping(3, all...)), all, api.OK},
		{"32, and one whose time is over", with(two(), keeping(5, all...), keeping(3, until(more, 100))), all, api.OK},
		{"one whose time is over, and 32", with(two(), keeping(3, until(more, 100)), keeping(5, all...)), all, api.OK},
		{"33", with(two(), keeping(5, all...), keeping(3, more)), nil, api.ErrFull},
		{"33, one at the last server", with(two(), keeping(3, all...), keeping(5, more)), nil, api.ErrFull},
		{"33, some of them twice", with(two(), keeping(5, all...), keeping(3, append(all[5:20:20], more)...)), nil, api.ErrFull},
		{"64", with(two(), keeping(5, all...), keeping(3, shifted(all)...)), nil, api.ErrFull},
		{"many, at all servers", with(full(), func(w *api.World) { w.Servers[9].Table[4].Target = toHost(9) }), nil, api.ErrFull},
	} {
		was := clone(x.world)
		l, err := Triggers(x.world)
		if !slices.Equal(l, x.want) || err != x.err {
			t.Errorf("%s: %d, %+v, want %d, %+v", x.what, err, l, x.err, x.want)
		}
		if !same(x.world, was) || !apart(x.world, l) {
			t.Errorf("%s: changed, or shared", x.what)
		}
	}
}

// shifted is triggers that lead to other hosts.
func shifted(l []api.Trigger) []api.Trigger {
	l = slices.Clone(l)
	for i := range l {
		l[i].Target.Host ^= 1
	}
	return l
}

// drain drains a world, and asks that what was handed in is as it was, and what is answered is new, and may be.
func drain(t *testing.T, w api.World, order ...int) (api.World, []api.Note, api.Errno) {
	t.Helper()
	was, numbers := clone(w), slices.Clone(order)
	then, notes, err := Drain(w, order...)
	if !same(w, was) || !slices.Equal(order, numbers) {
		t.Fatalf("%v changes %+v to %+v", numbers, was, w)
	}
	if !apart(w, order, then, notes) {
		t.Fatalf("%v of %+v shares memory", order, w)
	}
	if !world.Right(then) || len(then.Mail.Flight) > 0 {
		t.Fatalf("%v of %+v leaves %+v", order, w, then)
	}
	if err != api.OK && (!isZero(then) || len(notes) > 0) {
		t.Fatalf("%v of %+v: beside %d there is %+v, %+v", order, w, err, then, notes)
	}
	return then, notes, err
}

// spelled is a world in which letters bring a byte each to host 1.
func spelled(word string) api.World {
	w := two()
	for i, b := range word {
		w = with(w, posted(letter(8+i, 5, 17, data(9, string(b), toHost(1)))))
	}
	return w
}

// TestOrders has letters brought in orders that are worked out by hand: the bytes are told in the order in which they come.
func TestOrders(t *testing.T) {
	for _, c := range []struct {
		letters string
		order   []int
		want    string
	}{
		{"abcde", nil, "abcde"},
		{"abcde", []int{}, "abcde"},
		{"abcde", []int{0}, "abcde"},
		{"abcde", []int{1}, "bcdea"},
		{"abcde", []int{2}, "cdeab"},
		{"abcde", []int{4}, "eacbd"},
		{"abcde", []int{5}, "acedb"},
		{"abcde", []int{60}, "abcde"},
		{"abcde", []int{-1}, "edcba"},
		{"abcde", []int{-2}, "dcbae"},
		{"abcde", []int{-5}, "aecdb"},
		{"abcde", []int{-6}, "ecabd"},
		{"abcde", []int{-60}, "abcde"},
		{"abcde", []int{0, -1}, "aebdc"},
		{"abcde", []int{-1, 0}, "eadbc"},
		{"abcde", []int{0, 0, 1}, "abdce"},
		{"abcde", []int{1, 2, 3}, "bdaec"},
		{"abcde", []int{4, 3, 2, 1, 0}, "edcba"},
		{"abcde", []int{3, 3, 0, 0, 0, 1, 1, 1}, "deabc"},
		{"abcde", []int{math.MaxInt}, "cebda"},
		{"abcde", []int{math.MinInt}, "cadbe"},
		{"abcde", []int{math.MinInt, math.MaxInt}, "cebda"},
		{"ab", []int{-1, 0, 5}, "ba"},
		{"a", []int{-1}, "a"},
		{"a", []int{math.MinInt}, "a"},
		{"", []int{7, -7}, ""},
	} {
		w, notes, err := drain(t, spelled(c.letters), c.order...)
		var texts []string
		for _, n := range notes {
			if n.Kind != api.NGet || n.No != 1 || n.Was != 8+strings.Index(c.letters, n.Data) || n.At != 100 {
				t.Errorf("%v: %+v", c.order, n)
			}
			texts = append(texts, n.Data)
		}
		if got := strings.Join(texts, ""); got != c.want || err != api.OK {
			t.Errorf("%q by %v: %d, %q, want %q", c.letters, c.order, err, got, c.want)
		}
		if !slices.Equal(w.Hosts[0].Inbox, texts) {
			t.Errorf("%q by %v: %q", c.letters, c.order, w.Hosts[0].Inbox)
		}
	}
}

// TestOrdersOfNewLetters has letters come behind those that are there, so that the order goes on among them.
func TestOrdersOfNewLetters(t *testing.T) {
	// Each goes on by the second server to the first host.
	w := two()
	for i, b := range "abc" {
		w = with(w, posted(letter(8+i, 18, 5, data(9, string(b), toHost(1)))))
	}
	for _, c := range []struct {
		order []int
		want  string
	}{
		{nil, "8 9 10 a b c "}, {[]int{0}, "8 9 10 a b c "},
		// Of 8 9 10: 10; of 8 9 c: c; of 8 9: 9; of 8 b: b; of 8; of a.
		{[]int{-1}, "10 c 9 b 8 a "},
		// Of 8 9 10: 9; of 8 10 b: 10; of 8 b c: b; of 8 c: c; of 8; of a.
		{[]int{1}, "9 10 b c 8 a "},
		// Of 8 9 10: 8; of 9 10 a: a; of 9 10: 9; of 10 b: b; of 10; of c.
		{[]int{0, 2, 0, 1}, "8 a 9 b 10 c "},
	} {
		_, notes, err := drain(t, w, c.order...)
		got := ""
		for _, n := range notes {
			switch {
			case n.Kind == api.NOn && n.Was == 8:
				got += "8 "
			case n.Kind == api.NOn && n.Was == 9:
				got += "9 "
			case n.Kind == api.NOn && n.Was == 10:
				got += "10 "
			case n.Kind == api.NGet:
				got += n.Data + " "
			}
		}
		if got != c.want || len(notes) != 6 || err != api.OK {
			t.Errorf("%v: %d, %q, want %q: %+v", c.order, err, got, c.want, notes)
		}
	}
}

func TestDrainWithoutLetters(t *testing.T) {
	for _, c := range rightWorlds() {
		w := with(c.world, func(w *api.World) { w.Mail.Flight = nil })
		for _, order := range [][]int{nil, {0}, {-3, 8}} {
			then, notes, err := drain(t, w, order...)
			if !same(then, w) || len(notes) > 0 || err != api.OK {
				t.Errorf("%s: %d, %+v, %+v", c.what, err, then, notes)
			}
		}
	}
}

// TestDrainOfStrays has letters be lost, which is noted, and no error.
func TestDrainOfStrays(t *testing.T) {
	w := with(two(), posted(api.Letter{No: 8, From: 3, To: 5, Data: "x"}, letter(9, 17, 6, push(place(1))), letter(10, 3, 30, push(place(1))), letter(11, 3, 17, push(place(1)))))
	lost := func(no, was int, why api.Errno) api.Note {
		return api.Note{Kind: api.NLost, At: 100, No: no, Was: was, Why: why}
	}
	want := []api.Note{lost(5, 8, api.ErrSyntax), lost(6, 9, api.ErrDown), lost(30, 10, api.ErrDown)}
	then, notes, err := drain(t, w)
	if !slices.Equal(notes, want) || err != api.OK || !same(then, with(two(), func(w *api.World) { w.Mail.Last = 11 })) {
		t.Errorf("%d, %+v, %+v", err, notes, then)
	}
}

// TestMuch has letters go round: one of some hops is brought once more often than it has hops.
func TestMuch(t *testing.T) {
	a := place(50)
	going := func(hops ...int) api.World {
		w := with(two(), keeping(5, trig(a, toId(a), 900)))
		for i, n := range hops {
			w = with(w, posted(letter(8+i, 3, 5, data(n, "hi", toId(a)))))
		}
		return w
	}
	most := slices.Repeat([]int{64}, 15)
	for _, c := range []struct {
		what string
		hops []int
		err  api.Errno
	}{
		{"one", []int{64}, api.OK},
		{"one of no hops", []int{0}, api.OK},
		{"fifteen", most, api.OK},
		{"one fewer than may be", append(most, 23), api.OK},
		{"just as many as may be", append(most, 24), api.OK},
		{"one more than may be", append(most, 25), api.ErrFull},
		{"one more than may be, of no hops", append(most, 24, 0), api.ErrFull},
		{"just as many as may be, of many letters", append(slices.Repeat([]int{15}, 61), 7, 7, 7), api.OK},
		{"one more than may be, of many letters", append(slices.Repeat([]int{15}, 61), 7, 7, 8), api.ErrFull},
		{"far more", slices.Repeat([]int{64}, 64), api.ErrFull},
	} {
		for _, order := range [][]int{nil, {-1}, {7, -3, 1 << 40, 0}} {
			w, notes, err := drain(t, going(c.hops...), order...)
			if err != c.err {
				t.Errorf("%s, by %v: %d, want %d", c.what, order, err, c.err)
			}
			if err != api.OK {
				continue
			}
			sum := 0
			for _, n := range c.hops {
				sum += n
			}
			// What is over at its last hop is not noted.
			if len(notes) != sum || w.Mail.Last != 7+len(c.hops)+sum {
				t.Errorf("%s, by %v: %d notes, last %d, of %d", c.what, order, len(notes), w.Mail.Last, sum)
			}
		}
	}
}

// TestToItself is the chapter's example: a host sends to itself, and has that behind Drain.
func TestToItself(t *testing.T) {
	for _, h := range two().Hosts {
		w, _, err := world.Step(two(), api.Act{Kind: api.WSend, No: h.No, Stack: []api.Entry{toHost(h.No)}, Data: "hi"})
		if err != api.OK {
			t.Fatal(err)
		}
		then, notes, err := drain(t, w)
		want := []api.Note{{Kind: api.NOn, At: 100, No: h.Gate, Was: 8, Letter: 9}, {Kind: api.NGet, At: 100, No: h.No, Was: 9, Data: "hi"}}
		if !slices.Equal(notes, want) || err != api.OK {
			t.Errorf("%d, %+v", err, notes)
		}
		if !same(then, with(two(), hosting(h.No, func(h *api.Host) { h.Inbox = []string{"hi"} }), func(w *api.World) { w.Mail.Last = 9 })) {
			t.Errorf("%+v", then)
		}
	}
}

// TestServersThatCome has a world that is stable no more, until rounds have made it so.
func TestServersThatCome(t *testing.T) {
	w := with(two(), keeping(5, trig(place(50), toHost(1), 900), trig(place(70), toHost(1), 900)))
	w, _, err := world.Step(w, api.Act{Kind: api.WJoin, No: 4, Id: last(60)})
	if err != api.OK || Is(w) {
		t.Fatalf("%d, %+v", err, w)
	}
	for range 8 {
		w, _, _ = world.Step(w, api.Act{Kind: api.WRound})
	}
	if !Is(w) || !chord.Stable(w.Overlay) || len(serverOf(&w, 4).Table) != 1 {
		t.Errorf("%+v", w)
	}
}
