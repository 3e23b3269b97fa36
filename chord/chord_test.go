package chord

import (
	"fmt"
	"math/rand"
	"slices"
	"testing"

	"posthouse/api"
)

// five are servers whose numbers are in no order round the ring: 2, 9, 5, 12, 6, and then 2 again.
func five() []api.Member { return row(at(2, 20), at(5, 50), at(6, 90), at(9, 30), at(12, 60)) }

// pointed is the stable overlay of those five, each with fingers to two others, and to two that do not live, of other identifiers each.
func pointed() api.Overlay {
	o := settled(five()...)
	for i := range o.Nodes {
		n := &o.Nodes[i]
		l := others(five(), n.Self)
		n.Fingers = row(l[3], at(3, byte(100+i)), l[1], at(14, n.Self.Id[31]))
	}
	return o
}

// sixteen is the stable overlay of as many servers as there may be.
func sixteen() api.Overlay {
	var selves []api.Member
	for no := range 16 {
		selves = append(selves, at(no, byte(7*no+3)))
	}
	return settled(selves...)
}

// rightOverlays may be: each thing at its ends.
func rightOverlays() []api.Overlay {
	l := []api.Overlay{
		{},
		over(),
		over(lone(at(0, 0))),
		over(lone(at(15, 255))),
		over(lone(api.Member{No: 3, Id: last()}), lone(api.Member{No: 4})),
		// What is known does not have to be of use, nor to live.
		over(lone(at(3, 30)), lone(at(5, 50))),
		over(api.Node{Self: at(3, 30), Pred: at(4, 30), Succs: row(at(7, 30), at(5, 50)), Fingers: row(at(9, 50))}, lone(at(5, 50))),
		over(api.Node{Self: at(3, 30), Pred: at(4, 1), Succs: row(at(4, 2)), Fingers: row(at(4, 3))}, api.Node{Self: at(5, 50), Pred: at(4, 4), Succs: row(at(4, 5), at(3, 30)), Fingers: row(at(3, 30), at(4, 6))}),
		// None ahead is of no server's number, though its identifier is one's.
		over(lone(api.Member{No: 0}), lone(at(1, 1))),
		settled(five()...),
		pointed(),
		sixteen(),
	}
	for no := range 16 {
		l = append(l, over(lone(at(no, 9))))
	}
	chance := rand.New(rand.NewSource(1))
	for many := range 17 {
		l = append(l, settled(chanceSelves(chance, many)...))
	}
	for range 300 {
		l = append(l, chanceOverlay(chance))
	}
	return l
}

// wrongOverlays may not be: each has one fault.
func wrongOverlays() []api.Overlay {
	l := []api.Overlay{
		// Numbers are not each greater than the one ahead of it.
		over(lone(at(5, 50)), lone(at(3, 30))),
		over(lone(at(3, 30)), lone(at(3, 30))),
		over(lone(at(3, 30)), lone(at(3, 31))),
		over(lone(at(3, 30)), lone(at(5, 50)), lone(at(4, 40))),
		over(lone(at(4, 40)), lone(at(3, 30)), lone(at(5, 50))),
		// An identifier is of two.
		over(lone(at(3, 30)), lone(at(5, 30))),
		over(lone(at(3, 30)), lone(at(4, 40)), lone(at(5, 30))),
		over(lone(at(0, 0)), lone(at(15, 0))),
		over(api.Node{}),
		over(lone(at(3, 30)), api.Node{}),
	}
	for _, no := range wrongNumbers() {
		l = append(l, over(lone(at(no, 1))), over(lone(at(3, 30)), lone(at(no, 1))), over(lone(at(no, 1)), lone(at(3, 30))))
	}
	many := sixteen()
	l = append(l, over(slices.Concat(many.Nodes, over(lone(at(16, 250))).Nodes)...), over(slices.Repeat(many.Nodes, 2)...), over(slices.Repeat(many.Nodes, 50)...))
	for i := range pointed().Nodes {
		add := func(spoil func(n *api.Node)) {
			o := pointed()
			spoil(&o.Nodes[i])
			l = append(l, o)
		}
		// A node may not be.
		add(func(n *api.Node) { n.Pred = n.Self })
		add(func(n *api.Node) { n.Pred = at(-1, 1) })
		add(func(n *api.Node) { n.Pred.No = 16 })
		add(func(n *api.Node) { n.Succs = nil })
		add(func(n *api.Node) { n.Succs = append(n.Succs, at(3, 3)) })
		add(func(n *api.Node) { n.Succs[1] = n.Succs[0] })
		add(func(n *api.Node) { n.Succs[3] = n.Self })
		add(func(n *api.Node) { n.Fingers[3] = n.Self })
		add(func(n *api.Node) { n.Fingers[3] = n.Fingers[0] })
		add(func(n *api.Node) { n.Fingers[3].No = 16 })
		// One that lives is known as another one; those of numbers 3 and 14 do not live.
		add(func(n *api.Node) { n.Pred.Id[31]++ })
		for place := range 4 {
			add(func(n *api.Node) { n.Succs[place].Id[0]++ })
		}
		add(func(n *api.Node) { n.Fingers[0].Id = n.Self.Id })
		add(func(n *api.Node) { n.Fingers[2].Id[31]-- })
		add(func(n *api.Node) { n.Self.Id[31]++ })
		add(func(n *api.Node) { n.Succs = row(api.Member{No: n.Self.No, Id: last()}) })
	}
	return l
}

func TestOverlaysMayBe(t *testing.T) {
	for _, o := range rightOverlays() {
		if !Right(o) {
			t.Errorf("may be: %+v", o)
		}
		if !wantRight(o) {
			t.Errorf("the test's own way is wrong of %+v", o)
		}
	}
}

func TestOverlaysMayNotBe(t *testing.T) {
	for _, o := range wrongOverlays() {
		if Right(o) {
			t.Errorf("may not be: %+v", o)
		}
		if wantRight(o) {
			t.Errorf("the test's own way is wrong of %+v", o)
		}
	}
}

// TestRightOfEachNumber has one that is known by each number, living or not, as itself or not.
func TestRightOfEachNumber(t *testing.T) {
	for no := range 16 {
		for _, id := range []byte{20, 30, 50, 60, 90, 77} {
			m := at(no, id)
			right := !slices.ContainsFunc(five(), func(self api.Member) bool { return self.No == no && self != m })
			for i, n := range settled(five()...).Nodes {
				if n.Self.No == no {
					continue
				}
				ahead, follows, fingers := settled(five()...), settled(five()...), settled(five()...)
				ahead.Nodes[i].Pred = m
				follows.Nodes[i].Succs = row(m)
				fingers.Nodes[i].Fingers = row(m)
				for _, o := range []api.Overlay{ahead, follows, fingers} {
					if Right(o) != right {
						t.Errorf("%v knows %v: may be: %v", n.Self, m, !right)
					}
				}
			}
		}
	}
}

// TestWhatMayNotBeIsAWrongArgument has each fault in each call, whatever else is wrong.
func TestWhatMayNotBeIsAWrongArgument(t *testing.T) {
	for _, o := range wrongOverlays() {
		if Stable(o) {
			t.Errorf("stable, though it may not be: %+v", o)
		}
		for call, answer := range map[string]func() (api.Overlay, api.Errno){
			"join":             func() (api.Overlay, api.Errno) { return Join(o, at(7, 200), 2) },
			"join of wrong":    func() (api.Overlay, api.Errno) { return Join(o, at(16, 200), 2) },
			"join of taken":    func() (api.Overlay, api.Errno) { return Join(o, at(2, 20), 2) },
			"join behind none": func() (api.Overlay, api.Errno) { return Join(o, at(7, 200), 8) },
			"tend":             func() (api.Overlay, api.Errno) { return Tend(o, 2) },
			"tend none":        func() (api.Overlay, api.Errno) { return Tend(o, 7) },
			"round":            func() (api.Overlay, api.Errno) { return Round(o) },
			"leave":            func() (api.Overlay, api.Errno) { return Leave(o, 5) },
			"leave none":       func() (api.Overlay, api.Errno) { return Leave(o, -1) },
			"fail":             func() (api.Overlay, api.Errno) { return Fail(o, 12) },
			"fail none":        func() (api.Overlay, api.Errno) { return Fail(o, 16) },
			"point":            func() (api.Overlay, api.Errno) { return Point(o, 9, 2) },
			"point none":       func() (api.Overlay, api.Errno) { return Point(o, 7, 2) },
			"point to none":    func() (api.Overlay, api.Errno) { return Point(o, 2, 7) },
		} {
			if got, err := answer(); !isZero(got) || err != api.ErrArg {
				t.Errorf("%s of %+v: %+v, %d", call, o, got, err)
			}
		}
	}
}

func TestMembersAreTheSelves(t *testing.T) {
	for _, o := range slices.Concat(rightOverlays(), wrongOverlays()) {
		if got := Members(o); !slices.Equal(got, selvesOf(o)) {
			t.Errorf("of %+v: %v", o, got)
		}
	}
	if got := Members(pointed()); !slices.Equal(got, five()) {
		t.Errorf("of five: %v", got)
	}
	if got := Members(api.Overlay{}); len(got) > 0 {
		t.Errorf("of none: %v", got)
	}
}

func TestJoinOfTheFirst(t *testing.T) {
	for no := range 16 {
		for _, succ := range []int{-1, 0, no, 15, 16, 1 << 40} {
			m := api.Member{No: no, Id: last()}
			got, err := Join(api.Overlay{}, m, succ)
			if err != api.OK || !same(got, over(lone(m))) {
				t.Errorf("%v into nothing: %+v, %d", m, got, err)
			}
		}
	}
}

// TestJoinIsInItsPlace has one of each number that is free come behind each that lives.
func TestJoinIsInItsPlace(t *testing.T) {
	for no := range 16 {
		for place, succ := range five() {
			m := at(no, 200)
			o := settled(five()...)
			taken := slices.ContainsFunc(five(), func(self api.Member) bool { return self.No == no })
			got, err := Join(o, m, succ.No)
			if taken {
				if !isZero(got) || err != api.ErrTwice {
					t.Errorf("%v comes twice: %+v, %d", m, got, err)
				}
				continue
			}
			comer := api.Node{Self: m, Pred: nobody(), Succs: row(five()[place])}
			behind := 0
			for behind < 5 && five()[behind].No < no {
				behind++
			}
			if want := over(slices.Insert(o.Nodes, behind, comer)...); err != api.OK || !same(got, want) {
				t.Errorf("%v behind %v: %+v, %d", m, succ, got, err)
			}
		}
	}
}

func TestJoinOfWhatIsThere(t *testing.T) {
	o := pointed()
	for _, self := range five() {
		for _, m := range row(self, api.Member{No: self.No, Id: last()}, api.Member{No: 7, Id: self.Id}, api.Member{No: 0, Id: self.Id}) {
			for _, succ := range []int{self.No, 2, 7, -1} {
				if got, err := Join(o, m, succ); !isZero(got) || err != api.ErrTwice {
					t.Errorf("%v behind %d: %+v, %d", m, succ, got, err)
				}
			}
		}
	}
}

// TestJoinOfWhatIsKnownAsAnother has a node know one that does not live, at each place of each node, and it come as that or as another one.
func TestJoinOfWhatIsKnownAsAnother(t *testing.T) {
	for i := range five() {
		for _, know := range []func(n *api.Node, m api.Member){
			func(n *api.Node, m api.Member) { n.Pred = m },
			func(n *api.Node, m api.Member) { n.Succs = row(m) },
			func(n *api.Node, m api.Member) { n.Succs[3] = m },
			func(n *api.Node, m api.Member) { n.Fingers = row(m) },
			func(n *api.Node, m api.Member) { n.Fingers = append(row(at(3, 3), at(4, 4)), m) },
		} {
			o := settled(five()...)
			know(&o.Nodes[i], at(7, 200))
			for _, id := range []byte{0, 199, 201} {
				for _, succ := range []int{2, 7, 16} {
					if got, err := Join(o, at(7, id), succ); !isZero(got) || err != api.ErrTwice {
						t.Errorf("7 at %d, known at 200 by %+v: %+v, %d", id, o.Nodes[i], got, err)
					}
				}
			}
			want := over(slices.Insert(clone(o).Nodes, 3, api.Node{Self: at(7, 200), Pred: nobody(), Succs: row(at(5, 50))})...)
			if got, err := Join(o, at(7, 200), 5); err != api.OK || !same(got, want) {
				t.Errorf("7 as known by %+v: %+v, %d", o.Nodes[i], got, err)
			}
			// What is known at that identifier by another number is no matter.
			if got, err := Join(o, at(8, 200), 5); err != api.OK || len(got.Nodes) != 6 {
				t.Errorf("8 where 7 is known by %+v: %+v, %d", o.Nodes[i], got, err)
			}
		}
	}
}

func TestJoinBehindNone(t *testing.T) {
	for _, succ := range append(wrongNumbers(), 0, 1, 3, 4, 7, 15) {
		if got, err := Join(pointed(), at(7, 200), succ); !isZero(got) || err != api.ErrDown {
			t.Errorf("behind %d: %+v, %d", succ, got, err)
		}
	}
}

func TestJoinOfAWrongNumber(t *testing.T) {
	for _, no := range wrongNumbers() {
		for _, o := range []api.Overlay{{}, pointed(), sixteen()} {
			for _, id := range []byte{20, 200} {
				for _, succ := range []int{2, 7, no} {
					if got, err := Join(o, at(no, id), succ); !isZero(got) || err != api.ErrArg {
						t.Errorf("%d: %+v, %d", no, got, err)
					}
				}
			}
		}
	}
}

// TestJoinUntilAllLive has 16 come, and no more.
func TestJoinUntilAllLive(t *testing.T) {
	chance := rand.New(rand.NewSource(2))
	var o api.Overlay
	for _, m := range chanceSelves(chance, 16) {
		succ := 0
		if len(o.Nodes) > 0 {
			succ = o.Nodes[chance.Intn(len(o.Nodes))].Self.No
		}
		next, err := Join(o, m, succ)
		if err != api.OK || len(next.Nodes) != len(o.Nodes)+1 || !wantRight(next) {
			t.Fatalf("%v comes to %+v: %+v, %d", m, o, next, err)
		}
		o = next
	}
	for no := range 16 {
		if got, err := Join(o, at(no, 201), no); !isZero(got) || err != api.ErrTwice {
			t.Errorf("%d comes to 16: %+v, %d", no, got, err)
		}
	}
}

// two is of 3 at 30 and 5 at 50, that know what is told here.
func two(threePred api.Member, threeSuccs []api.Member, fivePred api.Member, fiveSuccs []api.Member) api.Overlay {
	return over(api.Node{Self: at(3, 30), Pred: threePred, Succs: threeSuccs}, api.Node{Self: at(5, 50), Pred: fivePred, Succs: fiveSuccs})
}

func TestTendByHand(t *testing.T) {
	three, five, dead := at(3, 30), at(5, 50), at(4, 40)
	for _, c := range []struct {
		what string
		o    api.Overlay
		no   int
		want api.Overlay
	}{
		{"it is alone", over(lone(three)), 3, over(lone(three))},
		{"it does not know the other one", two(nobody(), row(three), nobody(), row(five)), 3, two(nobody(), row(three), nobody(), row(five))},
		{"the one that follows hears of it", two(nobody(), row(three), nobody(), row(three)), 5, two(five, row(three), nobody(), row(three))},
		{"it follows the one ahead of it", two(five, row(three), nobody(), row(three)), 3, two(five, row(five), three, row(three))},
		{"nothing is new", two(five, row(five), three, row(three)), 3, two(five, row(five), three, row(three))},
		{"the one that follows does not live", two(five, row(dead, five), three, row(three)), 3, two(five, row(five), three, row(three))},
		{"none that follows lives", two(five, row(dead), nobody(), row(three)), 3, two(five, row(five), three, row(three))},
		{"none that it knows lives", two(dead, row(dead), three, row(three)), 3, two(nobody(), row(three), three, row(three))},
		{"the one ahead does not live", two(dead, row(five), three, row(three)), 3, two(nobody(), row(five), three, row(three))},
		{"the one that is ahead of the one that follows does not live", two(five, row(five), dead, row(three)), 3, two(five, row(five), dead, row(three))},
		{"that one is farther ahead than it", two(five, row(five), at(4, 20), row(three)), 3, two(five, row(five), three, row(three))},
		{"those behind the one that follows do not live", two(five, row(five), three, row(dead, at(6, 60))), 3, two(five, row(five, dead, at(6, 60)), three, row(dead, at(6, 60)))},
	} {
		if !wantRight(c.o) {
			t.Fatalf("%s: may not be", c.what)
		}
		if got, err := Tend(c.o, c.no); err != api.OK || !same(got, c.want) {
			t.Errorf("%s: %+v, %d, want %+v", c.what, got, err, c.want)
		}
	}
}

// TestTendDropsFingers has those go that do not live, and no other ones; those of other nodes stay.
func TestTendDropsFingers(t *testing.T) {
	for i, self := range five() {
		want := pointed()
		n := &want.Nodes[i]
		n.Fingers = row(n.Fingers[0], n.Fingers[2])
		if got, err := Tend(pointed(), self.No); err != api.OK || !same(got, want) {
			t.Errorf("of %v: %+v, %d, want %+v", self, got, err, want)
		}
	}
}

// TestTheNewFirstHearsOfIt has one come between: who follows it then hears of the one that tends itself, and not who followed it before.
func TestTheNewFirstHearsOfIt(t *testing.T) {
	a, b, c := at(7, 10), at(2, 20), at(4, 30)
	o := over(
		api.Node{Self: b, Pred: nobody(), Succs: row(c)},
		api.Node{Self: c, Pred: b, Succs: row(a)},
		api.Node{Self: a, Pred: c, Succs: row(c)},
	)
	want := over(
		api.Node{Self: b, Pred: a, Succs: row(c)},
		api.Node{Self: c, Pred: b, Succs: row(a)},
		api.Node{Self: a, Pred: c, Succs: row(b, c)},
	)
	if got, err := Tend(o, 7); err != api.OK || !same(got, want) {
		t.Errorf("%+v, %d, want %+v", got, err, want)
	}
}

// TestRoundIsOneBehindTheOther has what one server learns go on to the next one by number in the same round, but not back.
func TestRoundIsOneBehindTheOther(t *testing.T) {
	// Round the ring: 1, 2, 3, 4. None but the one that follows is known.
	o := over(
		api.Node{Self: at(1, 10), Pred: nobody(), Succs: row(at(2, 20))},
		api.Node{Self: at(2, 20), Pred: nobody(), Succs: row(at(3, 30))},
		api.Node{Self: at(3, 30), Pred: nobody(), Succs: row(at(4, 40))},
		api.Node{Self: at(4, 40), Pred: nobody(), Succs: row(at(1, 10))},
	)
	want := over(
		api.Node{Self: at(1, 10), Pred: at(4, 40), Succs: row(at(2, 20), at(3, 30))},
		api.Node{Self: at(2, 20), Pred: at(1, 10), Succs: row(at(3, 30), at(4, 40))},
		api.Node{Self: at(3, 30), Pred: at(2, 20), Succs: row(at(4, 40), at(1, 10))},
		api.Node{Self: at(4, 40), Pred: at(3, 30), Succs: row(at(1, 10), at(2, 20), at(3, 30))},
	)
	if got, err := Round(o); err != api.OK || !same(got, want) {
		t.Errorf("%+v, %d, want %+v", got, err, want)
	}
	if got, err := Round(api.Overlay{}); err != api.OK || !isZero(got) {
		t.Errorf("of nothing: %+v, %d", got, err)
	}
}

func TestPointByHand(t *testing.T) {
	o := pointed()
	for i, self := range five() {
		for _, to := range five() {
			want := pointed()
			if n := &want.Nodes[i]; !slices.Contains(n.Fingers, to) {
				n.Fingers = append(n.Fingers, to)
			}
			got, err := Point(o, self.No, to.No)
			if self == to && (!isZero(got) || err != api.ErrArg) || self != to && (!same(got, want) || err != api.OK) {
				t.Errorf("%v to %v: %+v, %d", self, to, got, err)
			}
		}
		// Those of 3 and 14 are known, but do not live.
		for _, to := range append(wrongNumbers(), 0, 3, 14, 15) {
			if got, err := Point(o, self.No, to); !isZero(got) || err != api.ErrDown {
				t.Errorf("%v to %d: %+v, %d", self, to, got, err)
			}
		}
	}
}

// TestPointToAll has a server of 16 have fingers to all others.
func TestPointToAll(t *testing.T) {
	o := sixteen()
	for to := range 16 {
		if to != 6 {
			next, err := Point(o, 6, to)
			if want, _ := wantPoint(o, 6, to); err != api.OK || !same(next, want) || len(next.Nodes[6].Fingers) != len(o.Nodes[6].Fingers)+1 {
				t.Fatalf("to %d: %+v, %d", to, next, err)
			}
			o = next
		}
	}
	if got, err := Point(o, 6, 6); !isZero(got) || err != api.ErrArg {
		t.Errorf("to itself: %+v, %d", got, err)
	}
	if got, err := Point(o, 6, 0); err != api.OK || !same(got, o) {
		t.Errorf("once more: %+v, %d", got, err)
	}
}

// TestWhoDoesNotLive has each number that is no server's in each call with one.
func TestWhoDoesNotLive(t *testing.T) {
	for _, o := range []api.Overlay{{}, pointed(), over(lone(at(2, 2)))} {
		lives := func(no int) bool {
			return slices.ContainsFunc(o.Nodes, func(n api.Node) bool { return n.Self.No == no })
		}
		for _, no := range append(wrongNumbers(), 0, 1, 2, 3, 4, 5, 6, 7, 8, 9, 10, 11, 12, 13, 14, 15) {
			if lives(no) {
				continue
			}
			for call, answer := range map[string]func() (api.Overlay, api.Errno){
				"tend":            func() (api.Overlay, api.Errno) { return Tend(o, no) },
				"leave":           func() (api.Overlay, api.Errno) { return Leave(o, no) },
				"fail":            func() (api.Overlay, api.Errno) { return Fail(o, no) },
				"point":           func() (api.Overlay, api.Errno) { return Point(o, no, 2) },
				"point to itself": func() (api.Overlay, api.Errno) { return Point(o, no, no) },
				"point to none":   func() (api.Overlay, api.Errno) { return Point(o, no, -1) },
			} {
				if got, err := answer(); !isZero(got) || err != api.ErrDown {
					t.Errorf("%s of %d: %+v, %d", call, no, got, err)
				}
			}
		}
	}
}

// TestFailIsToldToNone has all that others know stay.
func TestFailIsToldToNone(t *testing.T) {
	for i, self := range five() {
		want := over(slices.Delete(pointed().Nodes, i, i+1)...)
		if got, err := Fail(pointed(), self.No); err != api.OK || !same(got, want) {
			t.Errorf("of %v: %+v, %d", self, got, err)
		}
	}
	if got, err := Fail(over(lone(at(3, 30))), 3); err != api.OK || !isZero(got) {
		t.Errorf("of the last one: %+v, %d", got, err)
	}
}

func TestLeaveOfAStableOne(t *testing.T) {
	// Round the ring: 2, 9, 5, 12, 6.
	want := over(
		api.Node{Self: at(2, 20), Pred: at(6, 90), Succs: row(at(9, 30), at(12, 60), at(6, 90))},
		api.Node{Self: at(6, 90), Pred: at(12, 60), Succs: row(at(2, 20), at(9, 30), at(12, 60))},
		api.Node{Self: at(9, 30), Pred: at(2, 20), Succs: row(at(12, 60), at(6, 90), at(2, 20))},
		api.Node{Self: at(12, 60), Pred: at(9, 30), Succs: row(at(6, 90), at(2, 20), at(9, 30))},
	)
	o := settled(five()...)
	for i := range o.Nodes {
		if i != 1 {
			o.Nodes[i].Fingers = row(at(3, 33), at(5, 50), at(4, 50))
		}
		if i < 4 {
			want.Nodes[i].Fingers = row(at(3, 33), at(4, 50))
		}
	}
	if got, err := Leave(o, 5); err != api.OK || !same(got, want) {
		t.Errorf("%+v, %d, want %+v", got, err, want)
	}
	if got, err := Leave(over(lone(at(3, 30))), 3); err != api.OK || !isZero(got) {
		t.Errorf("of the last one: %+v, %d", got, err)
	}
}

// TestLeaveByHand has 5 at 50 leave 3 at 30 and 9 at 90; 4 and 6 do not live.
func TestLeaveByHand(t *testing.T) {
	three, five, nine, dead, gone := at(3, 30), at(5, 50), at(9, 90), at(4, 40), at(6, 60)
	for _, c := range []struct {
		what       string
		five       api.Node
		pred       api.Member
		succs      []api.Member
		wantPred   api.Member
		wantSuccs  []api.Member
		fingers    []api.Member
		wantFinger []api.Member
	}{
		{"it was not known", lone(five), nine, row(nine), nine, row(nine), row(nine), row(nine)},
		{"it was a finger", lone(five), nine, row(nine), nine, row(nine), row(nine, five), row(nine)},
		{"it was one of those that follow", api.Node{Pred: three, Succs: row(nine)}, nine, row(five, dead), nine, row(dead), nil, nil},
		{"it was behind one that follows", api.Node{Pred: three, Succs: row(nine)}, nine, row(dead, five), nine, row(dead), nil, nil},
		{"it alone followed", api.Node{Pred: three, Succs: row(nine)}, nine, row(five), nine, row(nine), nil, nil},
		{"it alone followed, and the server itself follows it", api.Node{Pred: nobody(), Succs: row(three, nine)}, nine, row(five), nine, row(nine), nil, nil},
		{"it alone followed, and none but that does", api.Node{Pred: nobody(), Succs: row(three)}, nine, row(five), nine, row(three), nil, nil},
		{"it alone followed, and none behind it lives", api.Node{Pred: nobody(), Succs: row(dead, gone)}, nine, row(five), nine, row(three), nil, nil},
		{"it alone followed, and some behind it live", api.Node{Pred: nobody(), Succs: row(dead, three, nine, gone)}, nine, row(five), nine, row(nine), nil, nil},
		{"it alone followed, and was alone", lone(five), nine, row(five), nine, row(three), nil, nil},
		{"another one alone followed", api.Node{Pred: nobody(), Succs: row(nine)}, nine, row(dead), nine, row(dead), nil, nil},
		{"none followed", api.Node{Pred: nobody(), Succs: row(nine)}, nine, row(three), nine, row(three), nil, nil},
		{"it was ahead", api.Node{Pred: nine, Succs: row(nine)}, five, row(nine), nine, row(nine), nil, nil},
		{"it was ahead, and none is ahead of it", api.Node{Pred: nobody(), Succs: row(nine)}, five, row(nine), nobody(), row(nine), nil, nil},
		{"it was ahead, and the server itself is ahead of it", api.Node{Pred: three, Succs: row(nine)}, five, row(nine), nobody(), row(nine), nil, nil},
		{"it was ahead, and the one ahead of it does not live", api.Node{Pred: dead, Succs: row(nine)}, five, row(nine), nobody(), row(nine), nil, nil},
		{"one that does not live was ahead", api.Node{Pred: nine, Succs: row(nine)}, dead, row(nine), dead, row(nine), nil, nil},
		{"none was ahead", api.Node{Pred: nine, Succs: row(nine)}, nobody(), row(nine), nobody(), row(nine), nil, nil},
		{"it was all that is known", api.Node{Pred: nine, Succs: row(nine, three)}, five, row(five), nine, row(nine), row(five), nil},
	} {
		c.five.Self = five
		o := over(api.Node{Self: three, Pred: c.pred, Succs: c.succs, Fingers: c.fingers}, c.five, lone(nine))
		want := over(api.Node{Self: three, Pred: c.wantPred, Succs: c.wantSuccs, Fingers: c.wantFinger}, lone(nine))
		if !wantRight(o) {
			t.Fatalf("%s: may not be", c.what)
		}
		if got, err := Leave(o, 5); err != api.OK || !same(got, want) {
			t.Errorf("%s: %+v, %d, want %+v", c.what, got, err, want)
		}
	}
}

// TestLeaveIsToldToAll has many that know the leaving one alone.
func TestLeaveIsToldToAll(t *testing.T) {
	gone := at(7, 70)
	o := over(api.Node{Self: gone, Pred: at(3, 30), Succs: row(at(9, 90), at(3, 30), at(1, 10), at(5, 50))})
	for _, no := range []int{5, 3, 1} {
		o.Nodes = slices.Insert(o.Nodes, 0, api.Node{Self: at(no, byte(10*no)), Pred: gone, Succs: row(gone)})
	}
	o.Nodes = append(o.Nodes, api.Node{Self: at(9, 90), Pred: gone, Succs: row(gone)})
	want := over(
		api.Node{Self: at(1, 10), Pred: at(3, 30), Succs: row(at(9, 90), at(3, 30), at(5, 50))},
		api.Node{Self: at(3, 30), Pred: nobody(), Succs: row(at(9, 90), at(1, 10), at(5, 50))},
		api.Node{Self: at(5, 50), Pred: at(3, 30), Succs: row(at(9, 90), at(3, 30), at(1, 10))},
		api.Node{Self: at(9, 90), Pred: at(3, 30), Succs: row(at(3, 30), at(1, 10), at(5, 50))},
	)
	if got, err := Leave(o, 7); err != api.OK || !same(got, want) {
		t.Errorf("%+v, %d, want %+v", got, err, want)
	}
}

func TestStableOnes(t *testing.T) {
	chance := rand.New(rand.NewSource(3))
	l := []api.Overlay{{}, over(), over(lone(at(0, 0))), pointed(), sixteen(), two(at(5, 50), row(at(5, 50)), at(3, 30), row(at(3, 30)))}
	for range 20 {
		for many := range 17 {
			l = append(l, settled(chanceSelves(chance, many)...))
		}
	}
	for _, o := range l {
		if !Stable(o) {
			t.Errorf("stable: %+v", o)
		}
	}
}

// TestUnstableOnes has each thing that a node of a stable overlay knows be another one, be there no more, or be there too.
func TestUnstableOnes(t *testing.T) {
	chance := rand.New(rand.NewSource(4))
	for many := range 17 {
		selves := chanceSelves(chance, many)
		stable := settled(selves...)
		for i, m := range stable.Nodes {
			try := func(spoil func(n *api.Node)) {
				o := clone(stable)
				spoil(&o.Nodes[i])
				if stays := same(o, stable); Stable(o) != stays {
					t.Errorf("stable, of %d: %v: %+v", many, !stays, o)
				}
			}
			// Of as many as there may be none is left that does not live.
			dead := api.Member{No: -1}
			for no := range 16 {
				if !slices.ContainsFunc(selves, func(m api.Member) bool { return m.No == no }) {
					dead = api.Member{No: no, Id: chanceId(chance)}
				}
			}
			if many > 1 {
				try(func(n *api.Node) { n.Pred = nobody() })
				try(func(n *api.Node) { n.Succs = row(n.Self) })
			}
			if dead != nobody() {
				try(func(n *api.Node) { n.Pred = dead })
				try(func(n *api.Node) { n.Succs = row(dead) })
				try(func(n *api.Node) { n.Succs[len(n.Succs)-1] = dead })
				if many > 1 && many < 5 {
					try(func(n *api.Node) { n.Succs = append(n.Succs, dead) })
				}
			}
			for _, other := range others(selves, m.Self) {
				try(func(n *api.Node) { n.Pred = other })
				try(func(n *api.Node) { n.Succs = row(other) })
				for place := range min(many-1, 4) {
					try(func(n *api.Node) { n.Succs = n.Succs[:place+1] })
					try(func(n *api.Node) { n.Succs = slices.Delete(n.Succs, place, place+1) })
					try(func(n *api.Node) { n.Succs[place], n.Succs[0] = n.Succs[0], n.Succs[place] })
					try(func(n *api.Node) { n.Succs[place] = other })
				}
			}
		}
	}
}

func TestAllCallsByChance(t *testing.T) {
	chance := rand.New(rand.NewSource(5))
	done := map[string]int{}
	for range 20000 {
		o := chanceOverlay(chance)
		if Stable(o) != wantStable(o) {
			t.Errorf("stable: %v: %+v", Stable(o), o)
		}
		call, got, err, want, wantErr := chanceStep(chance, o)
		if err != wantErr || !same(got, want) {
			t.Fatalf("%s of %+v: %+v, %d, want %+v, %d", call, o, got, err, want, wantErr)
		}
		done[fmt.Sprint(call, " ", err)]++
	}
	for _, one := range []string{"join 0", "join 1", "join 7", "join 10", "tend 0", "tend 10", "round 0", "fail 0", "fail 10", "leave 0", "leave 10", "point 0", "point 1", "point 10"} {
		if done[one] < 100 {
			t.Errorf("%s came about only %d times", one, done[one])
		}
	}
}

// anyOverlay is one by chance that often may not be.
func anyOverlay(chance *rand.Rand) api.Overlay {
	o := chanceOverlay(chance)
	for range chance.Intn(3) {
		m := api.Member{No: chance.Intn(20) - 2, Id: chanceId(chance)}
		if len(o.Nodes) == 0 {
			o.Nodes = append(o.Nodes, lone(m))
		}
		i, k := chance.Intn(len(o.Nodes)), chance.Intn(len(o.Nodes))
		switch n := &o.Nodes[i]; chance.Intn(8) {
		case 0:
			n.Self = m
		case 1:
			n.Self.Id = m.Id
		case 2:
			n.Pred = m
		case 3:
			n.Succs = append(n.Succs, m)
		case 4:
			n.Fingers = append(n.Fingers, m)
		case 5:
			n.Succs = nil
		case 6:
			o.Nodes[i], o.Nodes[k] = o.Nodes[k], o.Nodes[i]
		case 7:
			o.Nodes = append(o.Nodes, lone(m))
		}
	}
	return o
}

// TestNoCallPanics has whatever there is, and all calls answer as the chapter asks.
func TestNoCallPanics(t *testing.T) {
	chance := rand.New(rand.NewSource(6))
	counts := map[bool]int{}
	for range 20000 {
		o := anyOverlay(chance)
		right := wantRight(o)
		counts[right]++
		if Right(o) != right || Stable(o) != wantStable(o) || !slices.Equal(Members(o), selvesOf(o)) {
			t.Errorf("may be: %v, stable: %v, %v: %+v", Right(o), Stable(o), Members(o), o)
		}
		call, got, err, want, wantErr := chanceStep(chance, o)
		if err != wantErr || !same(got, want) {
			t.Fatalf("%s of %+v: %+v, %d, want %+v, %d", call, o, got, err, want, wantErr)
		}
	}
	if counts[true] < 1000 || counts[false] < 1000 {
		t.Errorf("too few of one kind: %v", counts)
	}
}

// roomy is an overlay whose lists have room behind them, with something in it, and what tells all that is in them.
func roomy(o api.Overlay) (api.Overlay, func() string) {
	room := func(l []api.Member) []api.Member {
		return append(slices.Clone(l), slices.Repeat(row(api.Member{No: 77, Id: last()}), 20)...)
	}
	nodes := append(slices.Clone(o.Nodes), slices.Repeat([]api.Node{lone(at(77, 77))}, 20)...)
	var lists [][]api.Member
	for i := range o.Nodes {
		n := &nodes[i]
		succs, fingers := room(n.Succs), room(n.Fingers)
		n.Succs, n.Fingers = succs[:len(n.Succs)], fingers[:len(n.Fingers)]
		lists = append(lists, succs, fingers)
	}
	return api.Overlay{Nodes: nodes[:len(o.Nodes)]}, func() string { return fmt.Sprint(nodes, lists) }
}

// answers are all overlays that calls answer of one.
func answers(o api.Overlay) []api.Overlay {
	round, _ := Round(o)
	first, _ := Join(o, api.Member{No: 1, Id: api.Id{5: 5}}, 2)
	l := []api.Overlay{round, first}
	for _, n := range o.Nodes {
		no := n.Self.No
		joined, _ := Join(o, api.Member{No: 8, Id: api.Id{4: 4}}, no)
		tended, _ := Tend(o, no)
		failed, _ := Fail(o, no)
		left, _ := Leave(o, no)
		pointed, _ := Point(o, no, o.Nodes[0].Self.No)
		l = append(l, joined, tended, failed, left, pointed)
	}
	return l
}

// spoil writes a mark of its own into each list of an overlay, and behind it as far as it has room, and tells whether two lists share any.
func spoil(o api.Overlay) bool {
	var lists [][]api.Member
	for _, n := range o.Nodes {
		lists = append(lists, n.Succs[:cap(n.Succs)], n.Fingers[:cap(n.Fingers)])
	}
	for mark, l := range lists {
		for place := range l {
			l[place] = api.Member{No: 100 + mark}
		}
	}
	shared := false
	for mark, l := range lists {
		shared = shared || slices.ContainsFunc(l, func(m api.Member) bool { return m.No != 100+mark })
	}
	nodes := o.Nodes[:cap(o.Nodes)]
	for place := range nodes {
		nodes[place] = api.Node{}
	}
	return shared
}

func TestAnswersAreNewMemory(t *testing.T) {
	gone := at(7, 70)
	l := append(rightOverlays(), over(
		api.Node{Self: at(3, 30), Pred: gone, Succs: row(gone)},
		api.Node{Self: at(5, 50), Pred: gone, Succs: row(gone)},
		api.Node{Self: gone, Pred: nobody(), Succs: row(at(9, 90), at(11, 110))},
		lone(at(9, 90)), lone(at(11, 110)),
	))
	for i := range l {
		o, tell := roomy(l[i])
		was := tell()
		all := answers(o)
		selves := Members(o)
		if now := tell(); now != was {
			t.Fatalf("a call changed %s to %s", was, now)
		}
		for _, a := range all {
			if spoil(a) {
				t.Errorf("two lists of an answer of %s share memory", was)
			}
		}
		selves = selves[:cap(selves)]
		for place := range selves {
			selves[place] = nobody()
		}
		if now := tell(); now != was {
			t.Fatalf("an answer shares memory with an argument: %s comes to be %s", was, now)
		}
	}
}

func TestCallsKeepNothing(t *testing.T) {
	tell := func() string { return fmt.Sprint(answers(pointed()), Members(pointed()), Stable(pointed())) }
	first := tell()
	for _, o := range slices.Concat(wrongOverlays(), rightOverlays()) {
		answers(o)
		Stable(o)
	}
	if again := tell(); again != first {
		t.Errorf("the same calls answer %s, and then %s", first, again)
	}
}

func TestNodesStops(t *testing.T) {
	o := settled(five()...)
	seen := 0
	for n := range nodes(o) {
		if n != &o.Nodes[seen] {
			t.Errorf("%+v is not handed on as it stands there", n)
		}
		seen++
		if seen == 2 {
			break
		}
	}
	if seen != 2 {
		t.Errorf("%d are handed on, though it was stopped at the second", seen)
	}
}
