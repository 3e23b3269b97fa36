package node

import (
	"fmt"
	"math"
	"math/big"
	"math/rand"
	"slices"
	"testing"

	"posthouse/api"
)

var ringSize = new(big.Int).Lsh(big.NewInt(1), 256)

// moved is the identifier so far behind another one, or ahead of it if that is below 0.
func moved(a api.Id, by int64) api.Id {
	n := new(big.Int).Add(new(big.Int).SetBytes(a[:]), big.NewInt(by))
	var b api.Id
	n.Mod(n, ringSize).FillBytes(b[:])
	return b
}

// way is the way from a to b as a number, worked out without package ident.
func way(a, b api.Id) *big.Int {
	n := new(big.Int).Sub(new(big.Int).SetBytes(b[:]), new(big.Int).SetBytes(a[:]))
	return n.Mod(n, ringSize)
}

// onWay tells whether x is on the way from one identifier to another one, which is of it; from one to itself is the whole ring.
func onWay(x, from, to api.Id) bool {
	return from == to || x != from && way(from, x).Cmp(way(from, to)) <= 0
}

func last() api.Id { return moved(api.Id{}, -1) }

func at(no int, id byte) api.Member { return api.Member{No: no, Id: api.Id{31: id}} }

func nobody() api.Member { return api.Member{No: -1} }

func row(l ...api.Member) []api.Member { return l }

// wantRight asks of a node what the chapter names, by counts of numbers.
func wantRight(n api.Node) bool {
	right := func(m api.Member) bool { return 0 <= m.No && m.No <= 15 }
	counts := func(l []api.Member, most int) (bool, map[int]int) {
		count, ok := map[int]int{}, len(l) <= most
		for _, m := range l {
			count[m.No]++
			ok = ok && right(m) && count[m.No] == 1
		}
		return ok, count
	}
	succs, follow := counts(n.Succs, 4)
	fingers, point := counts(n.Fingers, 16)
	alone := len(n.Succs) == 1 && n.Succs[0].No == n.Self.No && n.Succs[0].Id == n.Self.Id
	pred := right(n.Pred) && n.Pred.No != n.Self.No || n.Pred.No == -1 && n.Pred.Id == api.Id{}
	return right(n.Self) && pred && succs && len(n.Succs) > 0 && (alone || follow[n.Self.No] == 0) && fingers && point[n.Self.No] == 0
}

func wantOwns(n api.Node, id api.Id) bool {
	return wantRight(n) && n.Pred.No != -1 && onWay(id, n.Pred.Id, n.Self.Id)
}

// wantNext goes through the known from behind, so that of two of the same identifier the first one stays.
func wantNext(n api.Node, id api.Id) (api.Member, bool) {
	first := n.Succs[0]
	if onWay(id, n.Self.Id, first.Id) {
		return first, true
	}
	known := append(slices.Clone(n.Fingers), n.Succs...)
	best, found := first, false
	for _, m := range slices.Backward(known) {
		if m.Id == n.Self.Id || m.Id == id || !onWay(m.Id, n.Self.Id, id) {
			continue
		}
		if !found || way(n.Self.Id, m.Id).Cmp(way(n.Self.Id, best.Id)) >= 0 {
			best, found = m, true
		}
	}
	return best, false
}

func wantNotify(n api.Node, m api.Member) api.Node {
	if m.No == n.Self.No || m.Id == n.Self.Id {
		return n
	}
	if n.Pred.No == -1 || onWay(m.Id, n.Pred.Id, n.Self.Id) {
		n.Pred = m
	}
	return n
}

// wantFollow builds the whole row, cuts it, and takes from what is left the first of each number.
func wantFollow(n, s api.Node) api.Node {
	first, p := s.Self, s.Pred
	if p.No != -1 && p.No != n.Self.No && p.Id != n.Self.Id && p.Id != s.Self.Id && onWay(p.Id, n.Self.Id, s.Self.Id) {
		first = p
	}
	all := append([]api.Member{first, s.Self}, s.Succs...)
	if end := slices.IndexFunc(all, func(m api.Member) bool { return m.No == n.Self.No }); end >= 0 {
		all = all[:end]
	}
	n.Succs = nil
	for place, m := range all {
		before := slices.IndexFunc(all, func(other api.Member) bool { return other.No == m.No })
		if before == place {
			n.Succs = append(n.Succs, m)
		}
	}
	n.Succs = n.Succs[:min(4, len(n.Succs))]
	if len(n.Succs) == 0 {
		n.Succs = row(n.Self)
	}
	return n
}

func wantDrop(n api.Node, nos ...int) api.Node {
	left := func(l []api.Member) []api.Member {
		var left []api.Member
		for _, m := range l {
			if !slices.Contains(nos, m.No) || m.No == n.Self.No {
				left = append(left, m)
			}
		}
		return left
	}
	n.Succs, n.Fingers = left(n.Succs), left(n.Fingers)
	if len(n.Succs) == 0 {
		n.Succs = row(n.Self)
	}
	if slices.Contains(nos, n.Pred.No) {
		n.Pred = nobody()
	}
	return n
}

func wantPoint(n api.Node, m api.Member) (api.Node, api.Errno) {
	if m.No == n.Self.No || m.No < 0 || m.No > 15 {
		return api.Node{}, api.ErrArg
	}
	for _, f := range n.Fingers {
		if f.No == m.No {
			return n, api.OK
		}
	}
	n.Fingers = append(slices.Clone(n.Fingers), m)
	return n, api.OK
}

func same(a, b api.Node) bool {
	return a.Self == b.Self && a.Pred == b.Pred && slices.Equal(a.Succs, b.Succs) && slices.Equal(a.Fingers, b.Fingers)
}

// isZero tells whether a node is the zero one, as it is beside an error.
func isZero(n api.Node) bool { return same(n, api.Node{}) }

func clone(n api.Node) api.Node {
	n.Succs, n.Fingers = slices.Clone(n.Succs), slices.Clone(n.Fingers)
	return n
}

func wrongNumbers() []int {
	return []int{-1, -2, -15, -16, 16, 17, 31, 32, 255, 256, 1 << 32, math.MaxInt, math.MinInt}
}

// tightIds are round the ring's ends and its middle, few enough that they come twice.
func tightIds() []api.Id {
	return []api.Id{{}, {31: 1}, {31: 2}, {31: 255}, {30: 1}, {0: 127, 31: 255}, {0: 128}, {0: 128, 31: 1}, moved(api.Id{}, -2), last()}
}

func chanceId(chance *rand.Rand) api.Id {
	if chance.Intn(4) > 0 {
		ids := tightIds()
		return ids[chance.Intn(len(ids))]
	}
	var a api.Id
	chance.Read(a[:])
	return a
}

// chanceNode is one by chance that may be; of other numbers there may be the same identifier, its own one too.
func chanceNode(chance *rand.Rand) api.Node {
	others := chance.Perm(16)
	self := others[0]
	others = others[1:]
	some := func(n int) []api.Member {
		var l []api.Member
		chance.Shuffle(len(others), func(i, k int) { others[i], others[k] = others[k], others[i] })
		for _, no := range others[:n] {
			l = append(l, api.Member{No: no, Id: chanceId(chance)})
		}
		return l
	}
	n := api.Node{Self: api.Member{No: self, Id: chanceId(chance)}, Pred: nobody()}
	if chance.Intn(3) > 0 {
		n.Pred = some(1)[0]
	}
	n.Succs = some(chance.Intn(5))
	if len(n.Succs) == 0 {
		n.Succs = row(n.Self)
	}
	n.Fingers = some(chance.Intn(16))
	return n
}

func chanceNodes(seed int64, many int) []api.Node {
	chance := rand.New(rand.NewSource(seed))
	var l []api.Node
	for range many {
		l = append(l, chanceNode(chance))
	}
	return l
}

// full is a node that has as much as one can: Self 6, one ahead, 4 that follow, 15 fingers.
func full() api.Node {
	n := api.Node{Self: at(6, 60), Pred: at(5, 50)}
	for i := range 4 {
		n.Succs = append(n.Succs, at(7+i, byte(70+10*i)))
	}
	for no := range 16 {
		if no != 6 {
			n.Fingers = append(n.Fingers, at(no, byte(10*no)))
		}
	}
	return n
}

// rightNodes may be: each thing at its ends.
func rightNodes() []api.Node {
	a, b, c := at(0, 0), at(15, 9), api.Member{No: 7, Id: last()}
	l := []api.Node{
		{Self: a, Pred: nobody(), Succs: row(a)},
		{Self: a, Pred: nobody(), Succs: row(a), Fingers: row()},
		{Self: b, Pred: nobody(), Succs: row(b)},
		{Self: a, Pred: b, Succs: row(a)},
		// One ahead of zeros is no less one.
		{Self: b, Succs: row(b)},
		{Self: a, Pred: b, Succs: row(b)},
		{Self: b, Pred: a, Succs: row(a), Fingers: row(a)},
		{Self: a, Pred: nobody(), Succs: row(b, c), Fingers: row(c, b)},
		// Another one may be of the same identifier, and one number may have two of them in two places.
		{Self: a, Pred: api.Member{No: 1}, Succs: row(api.Member{No: 2}, api.Member{No: 1}), Fingers: row(api.Member{No: 3}, api.Member{No: 1, Id: last()})},
		{Self: api.Member{No: 3, Id: last()}, Pred: api.Member{No: 0, Id: last()}, Succs: row(api.Member{No: 4, Id: last()}, at(0, 0))},
		full(),
	}
	for no := range 16 {
		m := at(no, 77)
		l = append(l, api.Node{Self: m, Pred: nobody(), Succs: row(m)})
		n := api.Node{Self: m, Pred: at((no+15)%16, 1)}
		for i := 1; i <= 4; i++ {
			n.Succs = append(n.Succs, at((no+i)%16, byte(i)))
			l = append(l, clone(n))
		}
		for i := 1; i <= 15; i++ {
			n.Fingers = append(n.Fingers, at((no+i)%16, byte(i)))
			l = append(l, clone(n))
		}
	}
	return l
}

// wrongNodes may not be: each has one fault alone, but for those of too many fingers, whose numbers can't all be right.
func wrongNodes() []api.Node {
	var l []api.Node
	add := func(spoil func(n *api.Node)) {
		n := full()
		spoil(&n)
		l = append(l, n)
	}
	for _, no := range wrongNumbers() {
		add(func(n *api.Node) { n.Self.No = no })
		// One ahead of number -1 has an identifier here, and so is not none.
		add(func(n *api.Node) { n.Pred.No = no })
		if no != -1 {
			add(func(n *api.Node) { n.Pred = api.Member{No: no} })
		}
		m := api.Member{No: no, Id: api.Id{31: 3}}
		l = append(l, api.Node{Self: m, Pred: nobody(), Succs: row(m)})
		for place := range 4 {
			add(func(n *api.Node) { n.Succs[place].No = no })
		}
		for place := range 15 {
			add(func(n *api.Node) { n.Fingers[place].No = no })
		}
	}
	for i := range 32 {
		add(func(n *api.Node) { n.Pred = nobody(); n.Pred.Id[i] = 1 })
	}
	add(func(n *api.Node) { n.Pred = n.Self })
	add(func(n *api.Node) { n.Pred.No = n.Self.No })
	add(func(n *api.Node) { n.Succs = nil })
	add(func(n *api.Node) { n.Succs = row() })
	add(func(n *api.Node) { n.Succs = append(n.Succs, at(1, 200)) })
	add(func(n *api.Node) { n.Succs = append(n.Succs, at(1, 200), at(2, 201), at(3, 202)) })
	add(func(n *api.Node) { n.Succs = row(at(n.Self.No, 61)) })
	add(func(n *api.Node) { n.Succs = row(api.Member{No: 9, Id: n.Self.Id}, n.Self) })
	add(func(n *api.Node) { n.Succs = row(n.Self, n.Self) })
	for place := range 4 {
		add(func(n *api.Node) { n.Succs[place] = n.Self })
		add(func(n *api.Node) { n.Succs[place].No = n.Self.No })
		for ahead := range place {
			add(func(n *api.Node) { n.Succs[place] = n.Succs[ahead] })
			add(func(n *api.Node) { n.Succs[place].No = n.Succs[ahead].No })
		}
	}
	for place := range 15 {
		add(func(n *api.Node) { n.Fingers[place] = n.Self })
		add(func(n *api.Node) { n.Fingers[place].No = n.Self.No })
		for ahead := range place {
			add(func(n *api.Node) { n.Fingers[place] = n.Fingers[ahead] })
			add(func(n *api.Node) { n.Fingers[place].No = n.Fingers[ahead].No })
		}
	}
	add(func(n *api.Node) { n.Fingers = append(n.Fingers, n.Self) })
	add(func(n *api.Node) { n.Fingers = append(n.Fingers, at(3, 211), at(4, 212)) })
	add(func(n *api.Node) { n.Fingers = slices.Repeat(n.Fingers, 20) })
	return append(l, api.Node{}, api.Node{Self: at(3, 3), Pred: nobody()})
}

func TestNodesMayBe(t *testing.T) {
	for _, n := range append(rightNodes(), chanceNodes(1, 2000)...) {
		if !Right(n) {
			t.Errorf("may be: %+v", n)
		}
		if !wantRight(n) {
			t.Errorf("the test's own way is wrong of %+v", n)
		}
	}
}

func TestNodesMayNotBe(t *testing.T) {
	for _, n := range wrongNodes() {
		if Right(n) {
			t.Errorf("may not be: %+v", n)
		}
		if wantRight(n) {
			t.Errorf("the test's own way is wrong of %+v", n)
		}
	}
}

// anyNode is one by chance that often may not be.
func anyNode(chance *rand.Rand) api.Node {
	n := chanceNode(chance)
	number := func() int { return chance.Intn(20) - 2 }
	for range chance.Intn(4) {
		switch m := (api.Member{No: number(), Id: chanceId(chance)}); chance.Intn(8) {
		case 0:
			n.Self = m
		case 1:
			n.Pred = m
		case 2:
			n.Pred = api.Member{No: number()}
		case 3:
			n.Succs = append(n.Succs, m)
		case 4:
			n.Succs[chance.Intn(len(n.Succs))] = m
		case 5:
			n.Fingers = append(n.Fingers, m)
		case 6:
			n.Succs = row(n.Self)
		case 7:
			n.Self.Id, n.Fingers = chanceId(chance), nil
		}
	}
	return n
}

func TestRightByChance(t *testing.T) {
	chance := rand.New(rand.NewSource(2))
	counts := map[bool]int{}
	for range 20000 {
		n := anyNode(chance)
		want := wantRight(n)
		counts[want]++
		if got := Right(n); got != want {
			t.Errorf("%+v may be: %v, want %v", n, got, want)
		}
	}
	if counts[true] < 1000 || counts[false] < 1000 {
		t.Errorf("too few of one kind: %v", counts)
	}
}

// TestWhatMayNotBeIsAWrongArgument has each fault in each place of each call.
func TestWhatMayNotBeIsAWrongArgument(t *testing.T) {
	id := api.Id{31: 66}
	for _, n := range wrongNodes() {
		if Owns(n, id) || Owns(n, n.Self.Id) || Owns(n, api.Id{}) {
			t.Errorf("owns, though it may not be: %+v", n)
		}
		if m, found, err := Next(n, id); m != (api.Member{}) || found || err != api.ErrArg {
			t.Errorf("next of %+v: %v, %v, %d", n, m, found, err)
		}
		for call, answer := range map[string]func() (api.Node, api.Errno){
			"notify":           func() (api.Node, api.Errno) { return Notify(n, at(4, 44)) },
			"notify of wrong":  func() (api.Node, api.Errno) { return Notify(n, at(-1, 0)) },
			"follow":           func() (api.Node, api.Errno) { return Follow(n, full()) },
			"be followed":      func() (api.Node, api.Errno) { return Follow(full(), n) },
			"follow itself":    func() (api.Node, api.Errno) { return Follow(n, n) },
			"drop":             func() (api.Node, api.Errno) { return Drop(n, 3) },
			"drop nothing":     func() (api.Node, api.Errno) { return Drop(n) },
			"point":            func() (api.Node, api.Errno) { return Point(n, at(4, 44)) },
			"point to wrong":   func() (api.Node, api.Errno) { return Point(n, at(16, 44)) },
			"point to own one": func() (api.Node, api.Errno) { return Point(n, n.Self) },
		} {
			if got, err := answer(); !isZero(got) || err != api.ErrArg {
				t.Errorf("%s of %+v: %+v, %d", call, n, got, err)
			}
		}
	}
}

func TestMembersThatMayNotBeAreAWrongArgument(t *testing.T) {
	for _, no := range wrongNumbers() {
		for _, id := range tightIds() {
			m := api.Member{No: no, Id: id}
			if got, err := Alone(m); !isZero(got) || err != api.ErrArg {
				t.Errorf("alone %v: %+v, %d", m, got, err)
			}
			for _, n := range append(rightNodes()[:10], full()) {
				if got, err := Notify(n, m); !isZero(got) || err != api.ErrArg {
					t.Errorf("notify %+v of %v: %+v, %d", n, m, got, err)
				}
				if got, err := Point(n, m); !isZero(got) || err != api.ErrArg {
					t.Errorf("point %+v to %v: %+v, %d", n, m, got, err)
				}
			}
		}
	}
}

func TestAloneKnowsNoOther(t *testing.T) {
	for no := range 16 {
		for _, id := range tightIds() {
			m := api.Member{No: no, Id: id}
			got, err := Alone(m)
			if err != api.OK || got.Self != m || got.Pred != nobody() || !slices.Equal(got.Succs, row(m)) || len(got.Fingers) > 0 {
				t.Errorf("alone %v: %+v, %d", m, got, err)
			}
			if !Right(got) {
				t.Errorf("alone %v may not be", m)
			}
		}
	}
}

func TestOwnsByHand(t *testing.T) {
	for _, c := range []struct {
		pred api.Member
		self byte
		owns []byte
		not  []byte
	}{
		{at(1, 10), 20, []byte{11, 15, 20}, []byte{10, 9, 21, 0, 255}},
		{at(1, 20), 10, []byte{21, 255, 0, 9, 10}, []byte{20, 11, 15}},
		{at(1, 19), 20, []byte{20}, []byte{19, 21, 0}},
		{at(1, 20), 20, []byte{0, 19, 20, 21, 255}, nil},
		{nobody(), 20, nil, []byte{0, 19, 20, 21, 255}},
		{at(1, 0), 20, []byte{1, 20}, []byte{0, 21, 255}},
	} {
		n := api.Node{Self: at(2, c.self), Pred: c.pred, Succs: row(at(1, 10))}
		for _, id := range c.owns {
			if !Owns(n, api.Id{31: id}) {
				t.Errorf("%d does not own %d behind %v", c.self, id, c.pred)
			}
		}
		for _, id := range c.not {
			if Owns(n, api.Id{31: id}) {
				t.Errorf("%d owns %d behind %v", c.self, id, c.pred)
			}
		}
	}
	// One that is alone, and none ahead of it, owns nothing.
	alone, _ := Alone(at(3, 3))
	for _, id := range tightIds() {
		if Owns(alone, id) {
			t.Errorf("owns %x, though none is ahead", id)
		}
	}
}

// askedIds are where a node's answers may change: at all that it knows, and just beside.
func askedIds(n api.Node) []api.Id {
	ids := tightIds()
	for _, m := range append(append(row(n.Self, n.Pred), n.Succs...), n.Fingers...) {
		ids = append(ids, moved(m.Id, -1), m.Id, moved(m.Id, 1))
	}
	return ids
}

func TestOwnsAtAllPlaces(t *testing.T) {
	for _, n := range append(rightNodes(), chanceNodes(3, 300)...) {
		for _, id := range askedIds(n) {
			if got, want := Owns(n, id), wantOwns(n, id); got != want {
				t.Errorf("%+v owns %x: %v", n, id, got)
			}
		}
	}
}

func TestNextByHand(t *testing.T) {
	example := api.Node{Self: at(3, 3), Pred: nobody(), Succs: row(at(5, 5)), Fingers: row(at(5, 5), at(9, 9))}
	inSuccs := api.Node{Self: at(3, 3), Pred: nobody(), Succs: row(at(5, 5), at(9, 9))}
	alone, _ := Alone(at(3, 3))
	back := api.Node{Self: at(3, 3), Pred: at(1, 1), Succs: row(at(5, 5)), Fingers: row(at(1, 1))}
	twins := api.Node{Self: at(3, 3), Pred: nobody(), Succs: row(at(5, 5), at(6, 9)), Fingers: row(at(9, 9), at(8, 9))}
	// The one that follows is of the own identifier: the whole ring is its.
	twin := api.Node{Self: at(3, 3), Pred: nobody(), Succs: row(at(4, 3)), Fingers: row(at(9, 9))}
	for _, c := range []struct {
		n     api.Node
		id    byte
		want  api.Member
		found bool
	}{
		{example, 4, at(5, 5), true}, {example, 5, at(5, 5), true}, {example, 6, at(5, 5), false},
		{example, 9, at(5, 5), false}, {example, 10, at(9, 9), false}, {example, 255, at(9, 9), false},
		{example, 0, at(9, 9), false}, {example, 3, at(9, 9), false}, {example, 2, at(9, 9), false},
		{inSuccs, 4, at(5, 5), true}, {inSuccs, 6, at(5, 5), false}, {inSuccs, 9, at(5, 5), false}, {inSuccs, 10, at(9, 9), false},
		{alone, 3, at(3, 3), true}, {alone, 4, at(3, 3), true}, {alone, 0, at(3, 3), true}, {alone, 2, at(3, 3), true},
		{back, 0, at(5, 5), false}, {back, 1, at(5, 5), false}, {back, 2, at(1, 1), false}, {back, 3, at(1, 1), false},
		{twins, 10, at(9, 9), false}, {twins, 9, at(5, 5), false},
		{twin, 3, at(4, 3), true}, {twin, 4, at(4, 3), true}, {twin, 10, at(4, 3), true},
	} {
		if got, found, err := Next(c.n, api.Id{31: c.id}); got != c.want || found != c.found || err != api.OK {
			t.Errorf("next of %d by %+v: %v, %v, %d", c.id, c.n, got, found, err)
		}
	}
}

func TestNextIsTheFirstIfNoOtherIsKnown(t *testing.T) {
	n := api.Node{Self: at(3, 3), Pred: at(9, 9), Succs: row(at(5, 5))}
	for id := range 256 {
		found := id == 4 || id == 5
		if got, is, err := Next(n, api.Id{31: byte(id)}); got != at(5, 5) || is != found || err != api.OK {
			t.Errorf("next of %d: %v, %v, %d", id, got, is, err)
		}
	}
}

// TestOfTheSameIdentifierFingersAreAhead has the one of them that follows first, and the one of them that is the first finger.
func TestOfTheSameIdentifierFingersAreAhead(t *testing.T) {
	n := api.Node{Self: at(3, 3), Pred: nobody(), Succs: row(at(5, 5), at(6, 9)), Fingers: row(at(7, 3), at(8, 9), at(9, 9))}
	if got, found, err := Next(n, api.Id{31: 200}); got != at(8, 9) || found || err != api.OK {
		t.Errorf("next of 200: %v, %v, %d", got, found, err)
	}
}

func TestNextAtAllPlaces(t *testing.T) {
	for _, n := range append(rightNodes(), chanceNodes(4, 1500)...) {
		for _, id := range askedIds(n) {
			want, wantFound := wantNext(n, id)
			if got, found, err := Next(n, id); got != want || found != wantFound || err != api.OK {
				t.Errorf("next of %x by %+v: %v, %v, %d, want %v, %v", id, n, got, found, err, want, wantFound)
			}
		}
	}
}

// TestNextOnASmallRing has all nodes of up to two that follow and two fingers on a ring of a few places, asked for each place and those between.
func TestNextOnASmallRing(t *testing.T) {
	place := func(i int) api.Id { return moved(api.Id{}, int64(2*i-4)) }
	for all := range 5 * 5 * 5 * 5 * 5 {
		var ids []api.Id
		for rest := all; len(ids) < 5; rest /= 5 {
			ids = append(ids, place(rest%5))
		}
		n := api.Node{Self: api.Member{No: 0, Id: ids[0]}, Pred: nobody()}
		n.Succs = row(api.Member{No: 1, Id: ids[1]}, api.Member{No: 2, Id: ids[2]})
		n.Fingers = row(api.Member{No: 3, Id: ids[3]}, api.Member{No: 4, Id: ids[4]})
		for asked := range 11 {
			id := moved(api.Id{}, int64(asked-5))
			want, wantFound := wantNext(n, id)
			if got, found, err := Next(n, id); got != want || found != wantFound || err != api.OK {
				t.Errorf("next of %x by %+v: %v, %v, %d, want %v, %v", id, n, got, found, err, want, wantFound)
			}
		}
	}
}

func TestNotifyByHand(t *testing.T) {
	node := func(pred api.Member) api.Node {
		return api.Node{Self: at(3, 30), Pred: pred, Succs: row(at(5, 50), at(6, 60)), Fingers: row(at(9, 90))}
	}
	for _, c := range []struct {
		pred, m, want api.Member
	}{
		{nobody(), at(1, 10), at(1, 10)},
		{nobody(), at(1, 29), at(1, 29)},
		{nobody(), at(1, 31), at(1, 31)},
		{nobody(), api.Member{No: 0}, api.Member{No: 0}},
		// Of the own number, or the own identifier: nothing changes.
		{nobody(), at(3, 30), nobody()},
		{nobody(), at(3, 10), nobody()},
		{nobody(), at(1, 30), nobody()},
		{at(2, 20), at(3, 25), at(2, 20)},
		{at(2, 20), at(3, 30), at(2, 20)},
		{at(2, 20), at(1, 30), at(2, 20)},
		// On the way from the one ahead, and just outside it.
		{at(2, 20), at(1, 25), at(1, 25)},
		{at(2, 20), at(1, 21), at(1, 21)},
		{at(2, 20), at(1, 29), at(1, 29)},
		{at(2, 20), at(1, 20), at(2, 20)},
		{at(2, 20), at(1, 19), at(2, 20)},
		{at(2, 20), at(1, 31), at(2, 20)},
		{at(2, 20), at(1, 0), at(2, 20)},
		// Its own one ahead again, at its place or moved.
		{at(2, 20), at(2, 20), at(2, 20)},
		{at(2, 20), at(2, 25), at(2, 25)},
		{at(2, 20), at(2, 15), at(2, 20)},
		// Round the ring.
		{at(2, 40), at(1, 50), at(1, 50)},
		{at(2, 40), at(1, 0), at(1, 0)},
		{at(2, 40), at(1, 35), at(2, 40)},
		// The one ahead is of the own identifier: the whole ring is on the way.
		{at(2, 30), at(1, 99), at(1, 99)},
		{at(2, 30), at(1, 30), at(2, 30)},
		{at(2, 30), at(3, 99), at(2, 30)},
	} {
		n := node(c.pred)
		if got, err := Notify(n, c.m); err != api.OK || !same(got, node(c.want)) {
			t.Errorf("%v ahead, told of %v: %+v, %d", c.pred, c.m, got, err)
		}
	}
}

func TestNotifyAtAllPlaces(t *testing.T) {
	for _, n := range append(rightNodes(), chanceNodes(5, 100)...) {
		for _, id := range askedIds(n) {
			for no := range 16 {
				m := api.Member{No: no, Id: id}
				if got, err := Notify(n, m); err != api.OK || !same(got, wantNotify(n, m)) {
					t.Errorf("%+v told of %v: %+v, %d", n, m, got, err)
				}
			}
		}
	}
}

// followed is a node of 3 at 30 that follows what another one knows.
func followed(t *testing.T, s api.Node) []api.Member {
	t.Helper()
	n := api.Node{Self: at(3, 30), Pred: at(2, 20), Succs: row(at(15, 150)), Fingers: row(at(9, 90), at(14, 140))}
	got, err := Follow(n, s)
	if err != api.OK || got.Self != n.Self || got.Pred != n.Pred || !slices.Equal(got.Fingers, n.Fingers) {
		t.Errorf("following %+v changes more than who follows: %+v, %d", s, got, err)
	}
	return got.Succs
}

func TestFollowByHand(t *testing.T) {
	five, six, seven, eight, nine := at(5, 50), at(6, 60), at(7, 70), at(8, 80), at(9, 90)
	self := at(3, 30)
	for _, c := range []struct {
		self, pred api.Member
		succs      []api.Member
		want       []api.Member
	}{
		// None is ahead: the one that follows, and those behind it, 4 in all.
		{five, nobody(), row(five), row(five)},
		{five, nobody(), row(six), row(five, six)},
		{five, nobody(), row(six, seven, eight), row(five, six, seven, eight)},
		{five, nobody(), row(six, seven, eight, nine), row(five, six, seven, eight)},
		// One ahead between both is the first.
		{five, at(4, 40), row(six, seven, eight, nine), row(at(4, 40), five, six, seven)},
		{five, at(4, 31), row(six), row(at(4, 31), five, six)},
		{five, at(4, 49), row(six), row(at(4, 49), five, six)},
		// One ahead at either end, outside, or of the own number is not.
		{five, at(4, 30), row(six), row(five, six)},
		{five, at(4, 50), row(six), row(five, six)},
		{five, at(4, 29), row(six), row(five, six)},
		{five, at(4, 51), row(six), row(five, six)},
		{five, at(3, 40), row(six), row(five, six)},
		{five, self, row(six), row(five, six)},
		// Up to the first one of the own number, and none behind it.
		{five, nobody(), row(six, self, seven), row(five, six)},
		{five, nobody(), row(self, six, seven), row(five)},
		{five, nobody(), row(six, seven, eight, self), row(five, six, seven, eight)},
		{five, nobody(), row(six, at(3, 65), seven), row(five, six)},
		{five, at(4, 40), row(self), row(at(4, 40), five)},
		{five, self, row(self), row(five)},
		// Of each number once: the first of it.
		{five, at(7, 40), row(six, seven, eight, nine), row(at(7, 40), five, six, eight)},
		{five, at(6, 40), row(six), row(at(6, 40), five)},
		{five, at(6, 40), row(seven, six), row(at(6, 40), five, seven)},
		// Both ends at one identifier: the whole ring is between.
		{at(5, 30), at(4, 99), row(six), row(at(4, 99), at(5, 30), six)},
		{at(5, 30), at(4, 30), row(six), row(at(5, 30), six)},
		// What it follows is of its own number.
		{self, nobody(), row(self), row(self)},
		{self, nobody(), row(six, seven), row(self)},
		{self, at(4, 99), row(self), row(at(4, 99))},
		{self, at(4, 99), row(six, seven), row(at(4, 99))},
		{self, at(4, 30), row(six, seven), row(self)},
		{at(3, 99), nobody(), row(six), row(self)},
		{at(3, 99), at(4, 50), row(six), row(at(4, 50))},
		{at(3, 99), at(4, 20), row(six), row(self)},
	} {
		s := api.Node{Self: c.self, Pred: c.pred, Succs: c.succs, Fingers: row(at(12, 120), at(4, 41))}
		if got := followed(t, s); !slices.Equal(got, c.want) {
			t.Errorf("behind %+v follow %v, want %v", s, got, c.want)
		}
	}
}

func TestFollowRoundTheRing(t *testing.T) {
	n := api.Node{Self: api.Member{No: 1, Id: moved(api.Id{}, -3)}, Pred: nobody(), Succs: row(at(2, 3))}
	for by := int64(-6); by < 7; by++ {
		pred := api.Member{No: 5, Id: moved(api.Id{}, by)}
		want := row(at(2, 3))
		if by > -3 && by < 3 {
			want = row(pred, at(2, 3))
		}
		got, err := Follow(n, api.Node{Self: at(2, 3), Pred: pred, Succs: row(n.Self)})
		if err != api.OK || !slices.Equal(got.Succs, want) {
			t.Errorf("one %d behind 0 is ahead: %v, %d", by, got.Succs, err)
		}
	}
}

func TestFollowByChance(t *testing.T) {
	chance := rand.New(rand.NewSource(6))
	for range 20000 {
		n, s := chanceNode(chance), chanceNode(chance)
		if chance.Intn(8) == 0 {
			s = n
		}
		if got, err := Follow(n, s); err != api.OK || !same(got, wantFollow(n, s)) {
			t.Errorf("%+v behind %+v: %+v, %d, want %+v", n, s, got, err, wantFollow(n, s))
		}
	}
}

func TestDropByHand(t *testing.T) {
	n := api.Node{Self: at(3, 3), Pred: at(2, 2), Succs: row(at(4, 4), at(5, 5), at(2, 2)), Fingers: row(at(9, 9), at(2, 2), at(4, 40))}
	for _, c := range []struct {
		nos     []int
		pred    api.Member
		succs   []api.Member
		fingers []api.Member
	}{
		{nil, n.Pred, n.Succs, n.Fingers},
		{[]int{}, n.Pred, n.Succs, n.Fingers},
		{[]int{3}, n.Pred, n.Succs, n.Fingers},
		{[]int{7, 8, 0, 15}, n.Pred, n.Succs, n.Fingers},
		{[]int{4}, n.Pred, row(at(5, 5), at(2, 2)), row(at(9, 9), at(2, 2))},
		{[]int{9}, n.Pred, n.Succs, row(at(2, 2), at(4, 40))},
		{[]int{2}, nobody(), row(at(4, 4), at(5, 5)), row(at(9, 9), at(4, 40))},
		{[]int{2, 2, 2}, nobody(), row(at(4, 4), at(5, 5)), row(at(9, 9), at(4, 40))},
		{[]int{5, 9}, n.Pred, row(at(4, 4), at(2, 2)), row(at(2, 2), at(4, 40))},
		{[]int{2, 4, 5}, nobody(), row(at(3, 3)), row(at(9, 9))},
		{[]int{5, 3, 4, 2}, nobody(), row(at(3, 3)), row(at(9, 9))},
		{[]int{9, 5, 4, 2}, nobody(), row(at(3, 3)), nil},
		{wrongNumbers(), n.Pred, n.Succs, n.Fingers},
		{append(wrongNumbers(), 4), n.Pred, row(at(5, 5), at(2, 2)), row(at(9, 9), at(2, 2))},
	} {
		want := api.Node{Self: n.Self, Pred: c.pred, Succs: c.succs, Fingers: c.fingers}
		if got, err := Drop(n, c.nos...); err != api.OK || !same(got, want) {
			t.Errorf("without %v: %+v, %d", c.nos, got, err)
		}
	}
}

// TestDropAllNumbers has each set of numbers of a node's, with one that is none.
func TestDropAllNumbers(t *testing.T) {
	nodes := []api.Node{full(), {Self: at(6, 6), Pred: nobody(), Succs: row(at(6, 6))}, {Self: at(6, 6), Pred: at(1, 1), Succs: row(at(6, 6)), Fingers: row(at(1, 1), at(2, 2))}}
	for set := range 1 << 16 {
		nos := []int{-1}
		for no := range 16 {
			if set>>no&1 == 1 {
				nos = append(nos, no)
			}
		}
		for _, n := range nodes {
			if got, err := Drop(n, nos...); err != api.OK || !same(got, wantDrop(n, nos...)) {
				t.Fatalf("%+v without %v: %+v, %d", n, nos, got, err)
			}
		}
	}
}

func TestDropByChance(t *testing.T) {
	chance := rand.New(rand.NewSource(7))
	for range 5000 {
		n := chanceNode(chance)
		var nos []int
		for range chance.Intn(30) {
			nos = append(nos, chance.Intn(20)-2)
		}
		if got, err := Drop(n, nos...); err != api.OK || !same(got, wantDrop(n, nos...)) {
			t.Errorf("%+v without %v: %+v, %d", n, nos, got, err)
		}
	}
}

func TestNumbersToDropAreAnyNumber(t *testing.T) {
	for _, many := range []int{0, 1, 2, 17, 1000, 1 << 16} {
		nos := slices.Repeat([]int{-7}, many)
		if got, err := Drop(full(), nos...); err != api.OK || !same(got, full()) {
			t.Errorf("without %d numbers of none: %+v, %d", many, got, err)
		}
		if got, err := Drop(full(), append(nos, 9)...); err != api.OK || !same(got, wantDrop(full(), 9)) {
			t.Errorf("without %d numbers of none, and 9: %+v, %d", many, got, err)
		}
	}
}

func TestPointByHand(t *testing.T) {
	node := func(fingers ...api.Member) api.Node {
		return api.Node{Self: at(3, 30), Pred: at(2, 20), Succs: row(at(5, 50), at(6, 60)), Fingers: fingers}
	}
	for _, c := range []struct {
		fingers []api.Member
		m       api.Member
		want    []api.Member
	}{
		{nil, at(9, 90), row(at(9, 90))},
		{nil, api.Member{}, row(api.Member{})},
		{row(), at(15, 90), row(at(15, 90))},
		{row(at(9, 90)), at(8, 80), row(at(9, 90), at(8, 80))},
		{row(at(9, 90)), at(8, 90), row(at(9, 90), at(8, 90))},
		// That it follows, or is ahead, or is of the own identifier does not count.
		{row(at(9, 90)), at(5, 50), row(at(9, 90), at(5, 50))},
		{row(at(9, 90)), at(2, 20), row(at(9, 90), at(2, 20))},
		{row(at(9, 90)), at(4, 30), row(at(9, 90), at(4, 30))},
		// One of that number is there: nothing changes, not even its identifier.
		{row(at(9, 90)), at(9, 90), row(at(9, 90))},
		{row(at(9, 90), at(8, 80)), at(9, 91), row(at(9, 90), at(8, 80))},
		{row(at(8, 80), at(9, 90)), at(9, 91), row(at(8, 80), at(9, 90))},
	} {
		if got, err := Point(node(c.fingers...), c.m); err != api.OK || !same(got, node(c.want...)) {
			t.Errorf("to %v, by %v: %+v, %d", c.m, c.fingers, got, err)
		}
	}
	for _, m := range row(at(3, 30), at(3, 31), api.Member{No: 3}) {
		for _, n := range []api.Node{node(), node(at(9, 90))} {
			if got, err := Point(n, m); !isZero(got) || err != api.ErrArg {
				t.Errorf("to its own number, %v: %+v, %d", m, got, err)
			}
		}
	}
}

func TestPointByChance(t *testing.T) {
	chance := rand.New(rand.NewSource(8))
	for range 5000 {
		n, m := chanceNode(chance), api.Member{No: chance.Intn(18) - 1, Id: chanceId(chance)}
		want, wantErr := wantPoint(n, m)
		if got, err := Point(n, m); err != wantErr || !same(got, want) {
			t.Errorf("%+v to %v: %+v, %d", n, m, got, err)
		}
	}
}

// TestFingersNeverFillUp has fingers to all other numbers, which are fewer than the most that there may be.
func TestFingersNeverFillUp(t *testing.T) {
	for self := range 16 {
		n, _ := Alone(at(self, 1))
		for no := range 16 {
			if no == self {
				continue
			}
			next, err := Point(n, at(no, byte(no)))
			if err != api.OK || len(next.Fingers) != len(n.Fingers)+1 || next.Fingers[len(n.Fingers)] != at(no, byte(no)) || !Right(next) {
				t.Fatalf("%+v to %d: %+v, %d", n, no, next, err)
			}
			n = next
		}
		for no := range 16 {
			got, err := Point(n, at(no, 200))
			if no == self && (!isZero(got) || err != api.ErrArg) || no != self && (!same(got, n) || err != api.OK) {
				t.Errorf("with 15 fingers, to %d: %+v, %d", no, got, err)
			}
		}
	}
}

// TestWhatMayBeStaysSuch goes on from answer to answer.
func TestWhatMayBeStaysSuch(t *testing.T) {
	chance := rand.New(rand.NewSource(9))
	for range 300 {
		n := chanceNode(chance)
		for range 40 {
			var next api.Node
			var err api.Errno
			m := api.Member{No: chance.Intn(16), Id: chanceId(chance)}
			switch chance.Intn(5) {
			case 0:
				next, err = Notify(n, m)
			case 1:
				next, err = Follow(n, chanceNode(chance))
			case 2:
				next, err = Follow(chanceNode(chance), n)
			case 3:
				next, err = Drop(n, chance.Intn(16), chance.Intn(16), chance.Intn(16))
			case 4:
				m.No = (n.Self.No + 1 + chance.Intn(15)) % 16
				next, err = Point(n, m)
			}
			if err != api.OK || !Right(next) || !wantRight(next) {
				t.Fatalf("behind %+v comes %+v, %d", n, next, err)
			}
			if hasSelf := slices.Contains(next.Succs, next.Self); hasSelf && len(next.Succs) > 1 {
				t.Errorf("itself is one of %v that follow %v", next.Succs, next.Self)
			}
			n = next
		}
	}
}

// TestWhatIsAskedNextIsNearer has it that, if it is no owner and not the first that follows, it is nearer to the identifier than the one that asks.
func TestWhatIsAskedNextIsNearer(t *testing.T) {
	nearer := 0
	for _, n := range append(rightNodes(), chanceNodes(10, 1000)...) {
		for _, id := range askedIds(n) {
			m, found, err := Next(n, id)
			if err != api.OK {
				t.Fatalf("next of %x by %+v: %d", id, n, err)
			}
			if found != onWay(id, n.Self.Id, n.Succs[0].Id) || found && m != n.Succs[0] {
				t.Errorf("the owner of %x by %+v: %v, %v", id, n, m, found)
			}
			// From the own identifier to itself is the whole ring, so any other is nearer.
			if !found && m != n.Succs[0] {
				nearer++
				if m.Id == n.Self.Id || id != n.Self.Id && way(m.Id, id).Cmp(way(n.Self.Id, id)) >= 0 {
					t.Errorf("next of %x by %+v is no nearer: %v", id, n, m)
				}
			}
		}
	}
	if nearer < 1000 {
		t.Errorf("only %d were asked that are nearer", nearer)
	}
}

// TestFollowingGoesBackToTheOneJustBehind has a server follow, again and again, the first that follows it, which knows one ahead of it.
func TestFollowingGoesBackToTheOneJustBehind(t *testing.T) {
	n := api.Node{Self: at(0, 10), Pred: nobody(), Succs: row(at(6, 70))}
	for no := 5; no > 0; no-- {
		s := api.Node{Self: n.Succs[0], Pred: at(no, byte(10*no+10)), Succs: row(n.Self)}
		next, err := Follow(n, s)
		if want := row(s.Pred, s.Self); err != api.OK || !slices.Equal(next.Succs, want) {
			t.Fatalf("behind %+v: %v, %d, want %v", s, next.Succs, err, want)
		}
		n = next
	}
	// The one ahead of the last one is the server itself.
	got, err := Follow(n, api.Node{Self: n.Succs[0], Pred: n.Self, Succs: row(at(2, 30), at(3, 40), n.Self)})
	if want := row(at(1, 20), at(2, 30), at(3, 40)); err != api.OK || !slices.Equal(got.Succs, want) {
		t.Errorf("at last %v, %d, want %v", got.Succs, err, want)
	}
}

// roomy is a node whose lists have room behind them, with something in it.
func roomy(n api.Node) (api.Node, []api.Member, []api.Member) {
	more := slices.Repeat(row(api.Member{No: 77, Id: last()}), 30)
	succs, fingers := slices.Concat(n.Succs, more), slices.Concat(n.Fingers, more)
	n.Succs, n.Fingers = succs[:len(n.Succs)], fingers[:len(n.Fingers)]
	return n, succs, fingers
}

// answers are all nodes that calls answer of one, or two.
func answers(n, s api.Node, nos []int) []api.Node {
	var l []api.Node
	for _, no := range []int{n.Self.No, (n.Self.No + 1) % 16, (n.Self.No + 5) % 16, 16} {
		told, _ := Notify(n, at(no, 33))
		pointed, _ := Point(n, at(no, 33))
		l = append(l, told, pointed)
	}
	one, _ := Follow(n, s)
	two, _ := Follow(s, n)
	itself, _ := Follow(n, n)
	some, _ := Drop(n, nos...)
	none, _ := Drop(n)
	alone, _ := Alone(n.Self)
	return append(l, one, two, itself, some, none, alone)
}

// spoil writes a mark into a list, and behind it as far as it has room.
func spoil(l []api.Member, mark int) {
	l = l[:cap(l)]
	for place := range l {
		l[place] = api.Member{No: mark}
	}
}

func TestAnswersAreNewMemory(t *testing.T) {
	nodes := append(rightNodes(), chanceNodes(11, 200)...)
	for i := range nodes {
		n, succs, fingers := roomy(nodes[i])
		s, sSuccs, sFingers := roomy(nodes[(i*7+3)%len(nodes)])
		nos := []int{n.Succs[0].No, s.Self.No, 77}
		was := fmt.Sprint(succs, fingers, sSuccs, sFingers, nos)
		all := answers(n, s, nos)
		if now := fmt.Sprint(succs, fingers, sSuccs, sFingers, nos); now != was {
			t.Fatalf("a call changed %s to %s", was, now)
		}
		for _, a := range all {
			spoil(a.Succs, 99)
			spoil(a.Fingers, 98)
			if slices.Contains(a.Succs, api.Member{No: 98}) || slices.Contains(a.Fingers, api.Member{No: 99}) {
				t.Errorf("two lists of %+v share memory", a)
			}
		}
		if now := fmt.Sprint(succs, fingers, sSuccs, sFingers, nos); now != was {
			t.Fatalf("an answer shares memory with an argument: %s comes to be %s", was, now)
		}
	}
}

func TestCallsKeepNothing(t *testing.T) {
	n, s := full(), api.Node{Self: at(9, 9), Pred: at(8, 8), Succs: row(at(10, 10)), Fingers: row(at(2, 2))}
	tell := func() string {
		owns := Owns(n, api.Id{31: 55})
		m, found, err := Next(n, api.Id{31: 99})
		return fmt.Sprint(answers(n, s, []int{7}), owns, m, found, err)
	}
	first := tell()
	for _, other := range append(wrongNodes(), rightNodes()...) {
		answers(other, full(), []int{1, 2})
		Owns(other, api.Id{})
		Next(other, api.Id{})
	}
	if again := tell(); again != first {
		t.Errorf("the same calls answer %s, and then %s", first, again)
	}
}

func TestANilListCountsAsAnEmptyOne(t *testing.T) {
	for _, fingers := range [][]api.Member{nil, {}, make([]api.Member, 0, 9)} {
		n := api.Node{Self: at(3, 3), Pred: at(2, 2), Succs: row(at(4, 4)), Fingers: fingers}
		if !Right(n) || !Owns(n, api.Id{31: 3}) {
			t.Errorf("without fingers: %+v", n)
		}
		if m, found, err := Next(n, api.Id{31: 9}); m != at(4, 4) || found || err != api.OK {
			t.Errorf("next without fingers: %v, %v, %d", m, found, err)
		}
		for _, a := range answers(n, full(), nil) {
			if !isZero(a) && !Right(a) {
				t.Errorf("without fingers there comes %+v", a)
			}
		}
	}
	for _, succs := range [][]api.Member{nil, {}, make([]api.Member, 0, 9)} {
		n := api.Node{Self: at(3, 3), Pred: at(2, 2), Succs: succs}
		if _, err := Drop(n); err != api.ErrArg || Right(n) {
			t.Errorf("none follows: %d", err)
		}
	}
}

// TestNoCallPanics has whatever there is, and all calls answer as the chapter asks.
func TestNoCallPanics(t *testing.T) {
	chance := rand.New(rand.NewSource(12))
	for range 5000 {
		n, s := anyNode(chance), anyNode(chance)
		id, m := chanceId(chance), api.Member{No: chance.Intn(20) - 2, Id: chanceId(chance)}
		right, member := wantRight(n), m.No >= 0 && m.No <= 15
		want := func(ok bool) api.Errno {
			if ok {
				return api.OK
			}
			return api.ErrArg
		}
		if got := Owns(n, id); got != wantOwns(n, id) {
			t.Errorf("%+v owns %x: %v", n, id, got)
		}
		if got, found, err := Next(n, id); err != want(right) || err != api.OK && (got != api.Member{} || found) {
			t.Errorf("next of %x by %+v: %v, %v, %d", id, n, got, found, err)
		}
		for _, c := range []struct {
			call string
			ok   bool
			do   func() (api.Node, api.Errno)
		}{
			{"alone", member, func() (api.Node, api.Errno) { return Alone(m) }},
			{"notify", right && member, func() (api.Node, api.Errno) { return Notify(n, m) }},
			{"follow", right && wantRight(s), func() (api.Node, api.Errno) { return Follow(n, s) }},
			{"drop", right, func() (api.Node, api.Errno) { return Drop(n, m.No, n.Self.No) }},
			{"point", right && member && m.No != n.Self.No, func() (api.Node, api.Errno) { return Point(n, m) }},
		} {
			got, err := c.do()
			if err != want(c.ok) || err != api.OK && !isZero(got) || err == api.OK && !wantRight(got) {
				t.Errorf("%s of %+v, %+v, %v: %+v, %d", c.call, n, s, m, got, err)
			}
		}
	}
}

func TestUpToStops(t *testing.T) {
	l := row(at(4, 4), at(6, 6), at(3, 3), at(4, 5), at(3, 9))
	for _, c := range []struct {
		no   int
		want []api.Member
	}{
		{4, nil}, {6, l[:1]}, {3, l[:2]}, {7, l}, {-1, l},
	} {
		if got := slices.Collect(upTo(c.no, l)); !slices.Equal(got, c.want) {
			t.Errorf("up to %d: %v", c.no, got)
		}
	}
	seen := 0
	for m := range upTo(3, l) {
		seen++
		if m.No == 4 {
			break
		}
	}
	if seen != 1 {
		t.Errorf("%d are handed on, though it was stopped at the first", seen)
	}
}
