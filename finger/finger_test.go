package finger

import (
	"fmt"
	"math"
	"math/big"
	"math/rand"
	"slices"
	"testing"

	"posthouse/api"
	"posthouse/ident"
)

var ringSize = new(big.Int).Lsh(big.NewInt(1), 256)

func number(a api.Id) *big.Int { return new(big.Int).SetBytes(a[:]) }

// fromNumber goes round the ring, so that a number may be below 0 or behind its end.
func fromNumber(n *big.Int) api.Id {
	var a api.Id
	new(big.Int).Mod(n, ringSize).FillBytes(a[:])
	return a
}

// moved is the identifier so far behind another one, or ahead of it if that is below 0.
func moved(a api.Id, by int64) api.Id {
	return fromNumber(new(big.Int).Add(number(a), big.NewInt(by)))
}

// way is the way from a to b as a number, worked out without package ident.
func way(a, b api.Id) *big.Int {
	n := new(big.Int).Sub(number(b), number(a))
	return n.Mod(n, ringSize)
}

func last() api.Id { return moved(api.Id{}, -1) }

// wantGoal adds 2^(240+k) as a number.
func wantGoal(a api.Id, k int) api.Id {
	return fromNumber(new(big.Int).Add(number(a), new(big.Int).Lsh(big.NewInt(1), uint(240+k))))
}

func wantOwner(l []api.Member, id api.Id) api.Member {
	best := l[0]
	for _, m := range l[1:] {
		if way(id, m.Id).Cmp(way(id, best.Id)) < 0 {
			best = m
		}
	}
	return best
}

func wantIdeal(l []api.Member, self api.Member) []api.Member {
	var want []api.Member
	for k := range 16 {
		want = append(want, wantOwner(l, wantGoal(self.Id, k)))
	}
	return want
}

// onTheWay tells whether x is between from and to and neither; from an identifier to itself is the whole ring.
func onTheWay(x, from, to api.Id) bool {
	return x != from && x != to && (from == to || way(from, x).Cmp(way(from, to)) < 0)
}

// wantClosest looks for the one of which no other is behind it, and no first one of its identifier ahead of it in the list.
func wantClosest(id, self api.Id, known []api.Member) (api.Member, api.Errno) {
	for i, m := range known {
		better := func(place int, other api.Member) bool {
			order := way(self, other.Id).Cmp(way(self, m.Id))
			return onTheWay(other.Id, self, id) && (order > 0 || order == 0 && place < i)
		}
		beaten := false
		for place, other := range known {
			beaten = beaten || better(place, other)
		}
		if onTheWay(m.Id, self, id) && !beaten {
			return m, api.OK
		}
	}
	return api.Member{}, api.ErrNone
}

func chanceId(chance *rand.Rand) api.Id {
	var a api.Id
	for i := range a {
		a[i] = byte(chance.Intn(256))
	}
	return a
}

// nearId is another one's, just beside it, where one of its fingers points to or just beside that, or anywhere.
func nearId(chance *rand.Rand, near api.Id) api.Id {
	switch chance.Intn(5) {
	case 0:
		return moved(near, int64(chance.Intn(5)-2))
	case 1:
		return wantGoal(near, chance.Intn(16))
	case 2:
		return moved(wantGoal(near, chance.Intn(16)), int64(chance.Intn(3)-1))
	case 3:
		near[chance.Intn(32)] ^= 1 << chance.Intn(8)
		return near
	}
	return chanceId(chance)
}

// chanceMembers are n members by chance that may be.
func chanceMembers(chance *rand.Rand, n int) []api.Member {
	var l []api.Member
	near := moved(api.Id{}, int64(chance.Intn(3)-1))
	for _, no := range chance.Perm(16)[:n] {
		id := near
		for slices.ContainsFunc(l, func(m api.Member) bool { return m.Id == id }) {
			id = nearId(chance, near)
		}
		near = id
		l = append(l, api.Member{No: no, Id: id})
	}
	return l
}

// rightLists may be, and are of all sizes.
func rightLists() [][]api.Member {
	lists := [][]api.Member{
		nil,
		{},
		{{}},
		{{No: 15, Id: last()}},
		{{No: 0, Id: last()}, {No: 15}},
		{{No: 3, Id: api.Id{31: 1}}, {No: 2, Id: api.Id{0: 1}}, {No: 1}},
		{{No: 9, Id: api.Id{0: 128}}, {No: 8, Id: api.Id{0: 127, 31: 255}}, {No: 7, Id: api.Id{0: 128, 31: 1}}, {No: 6}},
	}
	chance := rand.New(rand.NewSource(8))
	for n := range 17 {
		for range 12 {
			lists = append(lists, chanceMembers(chance, n))
		}
	}
	return lists
}

func wrongNumbers() []int {
	return []int{-1, -2, -16, 16, 17, 32, 255, 256, 1 << 32, math.MaxInt, math.MinInt}
}

// sixteenths are n members round the whole ring, the numbers of which do not rise.
func sixteenths(n int) []api.Member {
	var l []api.Member
	for i := range n {
		l = append(l, api.Member{No: (i*7 + 4) % 16, Id: api.Id{0: byte(16 * i), 31: 3}})
	}
	return l
}

// wrongLists may not be: each has one fault alone, but for those of more than 16, whose numbers can't all be right.
func wrongLists() [][]api.Member {
	var lists [][]api.Member
	for _, n := range []int{1, 2, 3, 8, 16} {
		for place := range n {
			for _, no := range wrongNumbers() {
				l := sixteenths(n)
				l[place].No = no
				lists = append(lists, l)
			}
			for ahead := range place {
				l := sixteenths(n)
				l[place].No = l[ahead].No
				lists = append(lists, l)
				l = sixteenths(n)
				l[place].Id = l[ahead].Id
				lists = append(lists, l)
			}
		}
	}
	more := sixteenths(16)
	for no := 16; no < 400; no++ {
		more = append(more, api.Member{No: no, Id: wantGoal(api.Id{31: byte(no), 30: byte(no >> 8)}, no%16)})
		lists = append(lists, slices.Clone(more))
	}
	return lists
}

func TestGoalIsAPowerOfTwoBehind(t *testing.T) {
	for _, l := range rightLists() {
		for _, m := range l {
			for k := range 16 {
				if got, err := Goal(m, k); err != api.OK || got != wantGoal(m.Id, k) {
					t.Errorf("finger %d of %x: %x, %d, want %x", k, m, got, err, wantGoal(m.Id, k))
				}
			}
		}
	}
}

func TestGoalsOfTheFirstTwoBytes(t *testing.T) {
	for k, want := range []api.Id{
		{1: 1}, {1: 2}, {1: 4}, {1: 8}, {1: 16}, {1: 32}, {1: 64}, {1: 128},
		{0: 1}, {0: 2}, {0: 4}, {0: 8}, {0: 16}, {0: 32}, {0: 64}, {0: 128},
	} {
		if got, err := Goal(api.Member{}, k); err != api.OK || got != want {
			t.Errorf("finger %d of 0: %x, %d", k, got, err)
		}
	}
}

func TestGoalsGoRoundTheRing(t *testing.T) {
	for _, c := range []struct {
		id   api.Id
		k    int
		want api.Id
	}{
		{last(), 0, moved(api.Id{1: 1}, -1)},
		{last(), 8, moved(api.Id{0: 1}, -1)},
		{last(), 15, moved(api.Id{0: 128}, -1)},
		{api.Id{0: 128}, 15, api.Id{}},
		{api.Id{0: 255, 31: 7}, 8, api.Id{31: 7}},
		{api.Id{0: 255, 1: 255, 31: 7}, 0, api.Id{31: 7}},
		{api.Id{0: 1, 1: 255, 2: 9}, 0, api.Id{0: 2, 2: 9}},
	} {
		if got, err := Goal(api.Member{No: 3, Id: c.id}, c.k); err != api.OK || got != c.want {
			t.Errorf("finger %d of %x: %x, %d, want %x", c.k, c.id, got, err, c.want)
		}
	}
}

func TestThereAreSixteenGoals(t *testing.T) {
	for _, id := range []api.Id{{}, last(), {0: 64, 31: 1}} {
		for k := -300; k < 600; k++ {
			want, wantErr := api.Id{}, api.ErrArg
			if k >= 0 && k <= 15 {
				want, wantErr = wantGoal(id, k), api.OK
			}
			if got, err := Goal(api.Member{No: 2, Id: id}, k); got != want || err != wantErr {
				t.Errorf("finger %d of %x: %x, %d", k, id, got, err)
			}
		}
		for _, k := range wrongNumbers() {
			if got, err := Goal(api.Member{No: 2, Id: id}, k); got != (api.Id{}) || err != api.ErrArg {
				t.Errorf("finger %d of %x: %x, %d", k, id, got, err)
			}
		}
	}
}

func TestAGoalHangsOnNoNumber(t *testing.T) {
	id := api.Id{0: 200, 31: 9}
	for _, no := range append(wrongNumbers(), 0, 1, 15) {
		for k := range 16 {
			if got, err := Goal(api.Member{No: no, Id: id}, k); err != api.OK || got != wantGoal(id, k) {
				t.Errorf("finger %d of number %d: %x, %d", k, no, got, err)
			}
		}
	}
}

func TestIdealsOfAllLists(t *testing.T) {
	for _, l := range rightLists() {
		for _, self := range l {
			want := wantIdeal(l, self)
			if got, err := Ideal(l, self.No); err != api.OK || !slices.Equal(got, want) {
				t.Errorf("of %x in %x: %x, %d, want %x", self, l, got, err, want)
			}
		}
	}
}

// TestIdealsAtTheirEdges has a member where each finger points to, just ahead of it, and just behind it.
func TestIdealsAtTheirEdges(t *testing.T) {
	for _, id := range []api.Id{{}, {31: 5}, last(), {0: 64}, {0: 200, 1: 255, 31: 1}} {
		self := api.Member{No: 6, Id: id}
		for k := range 16 {
			for _, by := range []int64{-1, 0, 1} {
				other := api.Member{No: 11, Id: moved(wantGoal(id, k), by)}
				// Fingers that point behind the other one come round to the own one.
				var want []api.Member
				for finger := range 16 {
					if finger < k || finger == k && by >= 0 {
						want = append(want, other)
					} else {
						want = append(want, self)
					}
				}
				if got, err := Ideal([]api.Member{self, other}, 6); err != api.OK || !slices.Equal(got, want) {
					t.Errorf("%x, and %d behind its finger %d: %x, %d", id, by, k, got, err)
				}
			}
		}
	}
}

func TestIdealsByHand(t *testing.T) {
	a := api.Member{No: 1, Id: api.Id{0: 0x40}}
	b := api.Member{No: 2, Id: api.Id{0: 0x80}}
	c := api.Member{No: 3, Id: api.Id{0: 0x40, 1: 0x30}}
	for _, c := range []struct {
		l    []api.Member
		no   int
		want []api.Member
	}{
		{[]api.Member{a}, 1, slices.Repeat([]api.Member{a}, 16)},
		{[]api.Member{a, b}, 1, append(slices.Repeat([]api.Member{b}, 15), a)},
		{[]api.Member{b, a}, 2, slices.Repeat([]api.Member{a}, 16)},
		{[]api.Member{a, b, c}, 1, []api.Member{c, c, c, c, c, c, b, b, b, b, b, b, b, b, b, a}},
		{[]api.Member{c, b, a}, 3, []api.Member{b, b, b, b, b, b, b, b, b, b, b, b, b, b, a, a}},
	} {
		if got, err := Ideal(c.l, c.no); err != api.OK || !slices.Equal(got, c.want) {
			t.Errorf("of number %d in %x: %x, %d", c.no, c.l, got, err)
		}
	}
}

func TestMembersThatMayNotBeAreAWrongArgumentAheadOfAllElse(t *testing.T) {
	for _, l := range wrongLists() {
		for no := -2; no < 20; no++ {
			if got, err := Ideal(l, no); len(got) > 0 || err != api.ErrArg {
				t.Errorf("of number %d in %d members: %x, %d", no, len(l), got, err)
			}
		}
		for _, no := range wrongNumbers() {
			if got, err := Ideal(l, no); len(got) > 0 || err != api.ErrArg {
				t.Errorf("of number %d in %d members: %x, %d", no, len(l), got, err)
			}
		}
	}
}

func TestThereAreNoIdealsOfAnotherNumber(t *testing.T) {
	for _, l := range rightLists() {
		numbers := wrongNumbers()
		for no := range 16 {
			if !slices.ContainsFunc(l, func(m api.Member) bool { return m.No == no }) {
				numbers = append(numbers, no)
			}
		}
		for _, no := range numbers {
			if got, err := Ideal(l, no); len(got) > 0 || err != api.ErrNone {
				t.Errorf("of number %d in %x: %x, %d", no, l, got, err)
			}
		}
	}
}

func TestTheOrderOfMembersDoesNotCount(t *testing.T) {
	chance := rand.New(rand.NewSource(9))
	for _, l := range rightLists() {
		for _, self := range l {
			other := slices.Clone(l)
			chance.Shuffle(len(other), func(i, k int) { other[i], other[k] = other[k], other[i] })
			one, _ := Ideal(l, self.No)
			two, err := Ideal(other, self.No)
			if err != api.OK || !slices.Equal(one, two) {
				t.Errorf("of %x in %x: %x, in another order %x, %d", self, l, one, two, err)
			}
		}
	}
}

func TestIdealsAreNewMemory(t *testing.T) {
	for n := 1; n <= 16; n++ {
		l := sixteenths(n)
		got, _ := Ideal(l, 4)
		got = got[:cap(got)]
		for i := range got {
			got[i] = api.Member{No: 99, Id: last()}
		}
		if !slices.Equal(l, sixteenths(n)) {
			t.Errorf("the ideals of %d members share memory with them", n)
		}
		if again, err := Ideal(l, 4); err != api.OK || !slices.Equal(again, wantIdeal(l, l[0])) {
			t.Errorf("two answers of %d members share memory", n)
		}
	}
}

// TestTheChaptersExample has the known in all orders.
func TestTheChaptersExample(t *testing.T) {
	five, nine, twelve := api.Member{No: 5, Id: api.Id{31: 5}}, api.Member{No: 9, Id: api.Id{31: 9}}, api.Member{No: 12, Id: api.Id{31: 12}}
	for _, known := range [][]api.Member{
		{five, nine, twelve}, {five, twelve, nine}, {nine, five, twelve},
		{nine, twelve, five}, {twelve, five, nine}, {twelve, nine, five},
	} {
		if got, err := Closest(api.Id{31: 12}, api.Id{31: 3}, known...); err != api.OK || got != nine {
			t.Errorf("%x: %x, %d", known, got, err)
		}
	}
}

func TestClosestByHand(t *testing.T) {
	at := func(n byte) api.Member { return api.Member{No: int(n), Id: api.Id{31: n}} }
	known := []api.Member{at(20), at(5), at(9), at(12), at(3), at(30)}
	for _, c := range []struct {
		id, self byte
		want     int
	}{
		{12, 3, 9}, {13, 3, 12}, {10, 3, 9}, {9, 3, 5}, {6, 3, 5}, {5, 3, -1}, {4, 3, -1},
		{3, 3, 30}, {3, 4, 30}, {2, 3, 30}, {3, 30, -1}, {5, 30, 3}, {4, 30, 3}, {31, 30, -1},
		{30, 30, 20}, {30, 31, 20}, {20, 12, -1}, {21, 12, 20}, {20, 11, 12}, {0, 0, 30}, {40, 40, 30}, {7, 7, 5},
	} {
		want, wantErr := api.Member{}, api.ErrNone
		if c.want >= 0 {
			want, wantErr = at(byte(c.want)), api.OK
		}
		if got, err := Closest(api.Id{31: c.id}, api.Id{31: c.self}, known...); got != want || err != wantErr {
			t.Errorf("from %d to %d: %x, %d, want %d", c.self, c.id, got, err, c.want)
		}
	}
}

// eachList calls for every list of at most so many of the places, one member each, the number of which tells where it stands.
func eachList(places []api.Id, most int, call func(l []api.Member, at []int)) {
	var grow func(l []api.Member, at []int)
	grow = func(l []api.Member, at []int) {
		call(l, at)
		if len(l) == most {
			return
		}
		for p, id := range places {
			grow(append(slices.Clip(l), api.Member{No: len(l), Id: id}), append(slices.Clip(at), p))
		}
	}
	grow(nil, nil)
}

// TestClosestOfAllOnASmallRing counts places alone: how far one is behind another is not asked there.
func TestClosestOfAllOnASmallRing(t *testing.T) {
	places := []api.Id{{}, {31: 1}, {0: 1}, {0: 127, 31: 255}, {0: 128}, last()}
	size := len(places)
	eachList(places, 4, func(l []api.Member, at []int) {
		for id := range places {
			for self := range places {
				best, want, wantErr := 0, api.Member{}, api.ErrNone
				for i, p := range at {
					steps, whole := (p-self+size)%size, (id-self+size)%size
					if steps > best && (steps < whole || whole == 0) {
						best, want, wantErr = steps, l[i], api.OK
					}
				}
				if got, err := Closest(places[id], places[self], l...); got != want || err != wantErr {
					t.Errorf("from place %d to %d, known %v: %x, %d, want %x", self, id, at, got, err, want)
				}
			}
		}
	})
}

// asked is a question by chance: identifiers and known members near one another, many of them twice.
type asked struct {
	id, self api.Id
	known    []api.Member
}

func chanceAsked(chance *rand.Rand) asked {
	self := chanceId(chance)
	a := asked{id: nearId(chance, self), self: self}
	for range chance.Intn(40) {
		near := []api.Id{a.id, self}[chance.Intn(2)]
		if len(a.known) > 0 && chance.Intn(2) == 0 {
			near = a.known[chance.Intn(len(a.known))].Id
		}
		if chance.Intn(4) > 0 {
			near = nearId(chance, near)
		}
		a.known = append(a.known, api.Member{No: len(a.known), Id: near})
	}
	return a
}

func TestClosestByChance(t *testing.T) {
	chance := rand.New(rand.NewSource(10))
	for range 2000 {
		a := chanceAsked(chance)
		want, wantErr := wantClosest(a.id, a.self, a.known)
		if got, err := Closest(a.id, a.self, a.known...); got != want || err != wantErr {
			t.Errorf("from %x to %x of %x: %x, %d, want %x", a.self, a.id, a.known, got, err, want)
		}
	}
}

func TestOfTheSameIdentifierTheFirstOneIsClosest(t *testing.T) {
	near, far := api.Id{0: 3}, api.Id{0: 9}
	for place := range 12 {
		var known []api.Member
		for no := range 40 {
			id := near
			if no >= place && no%2 == place%2 {
				id = far
			}
			known = append(known, api.Member{No: no, Id: id})
		}
		if got, err := Closest(api.Id{0: 200}, api.Id{}, known...); err != api.OK || got != known[place] {
			t.Errorf("the first of %x is %x, %d, want number %d", far, got, err, place)
		}
	}
}

func TestNoneOfTheKnownIsOnTheWay(t *testing.T) {
	id, self := api.Id{0: 9}, api.Id{0: 3}
	one := func(a api.Id) api.Member { return api.Member{No: 7, Id: a} }
	for _, known := range [][]api.Member{
		nil,
		{},
		{one(self)},
		{one(id)},
		{one(id), one(self), one(id)},
		{one(moved(id, 1)), one(moved(self, -1))},
		{one(api.Id{}), one(last()), one(api.Id{0: 128})},
	} {
		if got, err := Closest(id, self, known...); got != (api.Member{}) || err != api.ErrNone {
			t.Errorf("%x: %x, %d", known, got, err)
		}
	}
	for _, a := range []api.Id{{}, last(), id} {
		for _, known := range [][]api.Member{nil, {one(a)}, {one(a), one(a)}} {
			if got, err := Closest(a, a, known...); got != (api.Member{}) || err != api.ErrNone {
				t.Errorf("round the ring from %x, known %x: %x, %d", a, known, got, err)
			}
		}
		// No identifier is between two that are side by side.
		if got, err := Closest(moved(a, 1), a, one(a), one(moved(a, 1)), one(moved(a, 2)), one(moved(a, -1))); got != (api.Member{}) || err != api.ErrNone {
			t.Errorf("from %x to the next: %x, %d", a, got, err)
		}
	}
}

func TestTheEndsOfTheWayAreJustOutsideIt(t *testing.T) {
	for _, self := range []api.Id{{}, last(), {0: 127, 31: 255}, {31: 255}} {
		for k := 1; k < 256; k++ {
			id, _ := ident.Step(self, k)
			for by, want := range map[int64]bool{-1: true, 0: false, 1: false} {
				m := api.Member{No: 4, Id: moved(id, by)}
				got, err := Closest(id, self, m)
				if want != (err == api.OK) || want != (got == m) {
					t.Errorf("from %x to %x, known %d behind: %x, %d", self, id, by, got, err)
				}
			}
			for by, want := range map[int64]bool{-1: false, 0: false, 1: true} {
				m := api.Member{No: 4, Id: moved(self, by)}
				got, err := Closest(id, self, m)
				if want != (err == api.OK) || want != (got == m) {
					t.Errorf("from %x to %x, known %d behind the own one: %x, %d", self, id, by, got, err)
				}
			}
		}
	}
}

func TestFromAnIdentifierToItselfIsTheWholeRing(t *testing.T) {
	for _, a := range []api.Id{{}, {31: 1}, {0: 128}, last(), {0: 3, 9: 9}} {
		all := []api.Member{{No: 0, Id: moved(a, 1)}, {No: 1, Id: moved(a, -1)}, {No: 2, Id: wantGoal(a, 15)}, {No: 3, Id: a}}
		for n, no := range []int{-1, 0, 1, 1, 1} {
			want, wantErr := api.Member{}, api.ErrNone
			if no >= 0 {
				want, wantErr = all[no], api.OK
			}
			if got, err := Closest(a, a, all[:n]...); got != want || err != wantErr {
				t.Errorf("round the ring from %x, known %d: %x, %d", a, n, got, err)
			}
		}
	}
}

// TestTheKnownAreTakenAsTheyAre has members that may not be: their numbers are not asked for.
func TestTheKnownAreTakenAsTheyAre(t *testing.T) {
	for _, no := range append(wrongNumbers(), 0, 15) {
		known := []api.Member{{No: no, Id: api.Id{31: 5}}, {No: no, Id: api.Id{31: 9}}, {No: no, Id: api.Id{31: 8}}}
		if got, err := Closest(api.Id{31: 12}, api.Id{31: 3}, known...); err != api.OK || got != known[1] {
			t.Errorf("known by number %d: %x, %d", no, got, err)
		}
	}
	// A member of zeros is found as any other.
	if got, err := Closest(api.Id{31: 1}, last(), api.Member{}); err != api.OK || got != (api.Member{}) {
		t.Errorf("the member of zeros: %x, %d", got, err)
	}
}

func TestTheKnownAreAnyNumber(t *testing.T) {
	for _, n := range []int{0, 1, 2, 15, 16, 17, 18, 300, 1 << 16} {
		var known []api.Member
		for i := range n {
			known = append(known, api.Member{No: i, Id: api.Id{0: 1, 29: byte(i >> 16), 30: byte(i >> 8), 31: byte(i)}})
		}
		for place := range min(n, 3) {
			// Wherever the list begins, what is closest stands at its place.
			turned := append(slices.Clone(known[n-place:]), known[:n-place]...)
			if got, err := Closest(api.Id{0: 2}, api.Id{}, turned...); err != api.OK || got != known[n-1] {
				t.Errorf("of %d: %x, %d", n, got, err)
			}
		}
		if got, err := Closest(api.Id{0: 1}, api.Id{}, known...); got != (api.Member{}) || err != api.ErrNone {
			t.Errorf("of %d none: %x, %d", n, got, err)
		}
	}
}

func TestTheClosestOneIsNearer(t *testing.T) {
	chance := rand.New(rand.NewSource(11))
	for range 3000 {
		a := chanceAsked(chance)
		got, err := Closest(a.id, a.self, a.known...)
		if err != api.OK {
			continue
		}
		if a.id != a.self && way(got.Id, a.id).Cmp(way(a.self, a.id)) >= 0 {
			t.Errorf("from %x to %x, %x is no nearer", a.self, a.id, got)
		}
		for _, m := range a.known {
			if m.Id != a.self && onTheWay(m.Id, got.Id, a.id) {
				t.Errorf("from %x to %x, %x is on the way from %x", a.self, a.id, m, got)
			}
		}
	}
}

func TestBehindTheClosestOneThereIsNone(t *testing.T) {
	chance := rand.New(rand.NewSource(12))
	for range 500 {
		a := chanceAsked(chance)
		first, err := Closest(a.id, a.self, a.known...)
		if err != api.OK || a.id == a.self {
			continue
		}
		if next, err := Closest(a.id, first.Id, a.known...); err != api.ErrNone {
			t.Errorf("to %x, behind the closest one, %x, there is %x, %d", a.id, first, next, err)
		}
	}
}

func TestCallsChangeNothing(t *testing.T) {
	chance := rand.New(rand.NewSource(13))
	for _, l := range append(rightLists(), wrongLists()...) {
		room := append(slices.Grow(slices.Clone(l), 40), api.Member{No: 77, Id: last()})
		was := slices.Clone(room)
		for _, no := range []int{0, 4, 15, 16} {
			Ideal(room[:len(l)], no)
			Closest(chanceId(chance), chanceId(chance), room[:len(l)]...)
		}
		if !slices.Equal(room, was) {
			t.Fatalf("a call changed %d members", len(l))
		}
	}
}

func TestCallsKeepNothing(t *testing.T) {
	answers := func() string {
		l := sixteenths(9)
		goal, err := Goal(l[3], 7)
		ideals, errIdeal := Ideal(l, 4)
		closest, errClosest := Closest(api.Id{0: 100}, api.Id{0: 17}, l...)
		return fmt.Sprint(goal, err, ideals, errIdeal, closest, errClosest)
	}
	first := answers()
	Goal(api.Member{}, 16)
	Ideal(wrongLists()[0], 0)
	Closest(api.Id{}, last())
	if again := answers(); again != first {
		t.Errorf("the same calls answer %s, and then %s", first, again)
	}
}

func TestANilListCountsAsAnEmptyOne(t *testing.T) {
	for _, l := range [][]api.Member{nil, {}, make([]api.Member, 0, 9)} {
		if got, err := Ideal(l, 0); len(got) > 0 || err != api.ErrNone {
			t.Errorf("of no members: %x, %d", got, err)
		}
		if got, err := Closest(api.Id{0: 9}, api.Id{}, l...); got != (api.Member{}) || err != api.ErrNone {
			t.Errorf("none is known: %x, %d", got, err)
		}
	}
}

func TestOnlyHandsOnWhatFitsUntilItIsStopped(t *testing.T) {
	odd := func(n int) bool { return n%2 == 1 }
	all := []int{2, 3, 5, 8, 13, 21, 34}
	if got, want := slices.Collect(only(slices.Values(all), odd)), []int{3, 5, 13, 21}; !slices.Equal(got, want) {
		t.Errorf("%v, want %v", got, want)
	}
	seen := 0
	for n := range only(slices.Values(all), odd) {
		seen++
		if n == 5 {
			break
		}
	}
	if seen != 2 {
		t.Errorf("%d are handed on, though it was stopped at the second", seen)
	}
}
