package ring

import (
	"fmt"
	"math"
	"math/big"
	"math/rand"
	"slices"
	"testing"

	"posthouse/api"
	"posthouse/ident"
)

func filled(b byte) api.Id {
	var a api.Id
	for i := range a {
		a[i] = b
	}
	return a
}

func member(no int, id api.Id) api.Member { return api.Member{No: no, Id: id} }

// tens are members at 10, 20, 30 and on, the numbers of which do not rise, out of order.
func tens(n int) []api.Member {
	var l []api.Member
	for i := range n {
		l = append(l, member((i*5+3)%16, api.Id{31: byte(10 * (1 + i))}))
	}
	for i := 0; i+2 < n; i += 2 {
		l[i], l[i+2] = l[i+2], l[i]
	}
	return l
}

// chanceId is near the ring's end, near another one, or anywhere.
func chanceId(chance *rand.Rand, near api.Id) api.Id {
	var id api.Id
	switch chance.Intn(4) {
	case 0:
		id[31] = byte(chance.Intn(4))
	case 1:
		id = filled(255)
		id[31] -= byte(chance.Intn(4))
	case 2:
		id = near
		id[chance.Intn(32)] ^= 1 << chance.Intn(8)
	default:
		for i := range id {
			id[i] = byte(chance.Intn(256))
		}
	}
	return id
}

// chanceMembers are n members by chance that may be.
func chanceMembers(chance *rand.Rand, n int) []api.Member {
	var l []api.Member
	near := api.Id{}
	for _, no := range chance.Perm(16)[:n] {
		id := chanceId(chance, near)
		for slices.ContainsFunc(l, func(m api.Member) bool { return m.Id == id }) {
			id = chanceId(chance, near)
		}
		near = id
		l = append(l, member(no, id))
	}
	return l
}

// rightLists may be, and are of all sizes.
func rightLists() [][]api.Member {
	last := filled(255)
	lists := [][]api.Member{
		nil,
		{},
		{{}},
		{member(15, last)},
		{member(0, last), member(15, api.Id{})},
		{member(15, api.Id{}), member(0, last)},
		{member(1, api.Id{31: 1}), member(0, api.Id{0: 1})},
		{member(2, api.Id{0: 128}), member(3, api.Id{0: 127, 31: 255}), member(4, api.Id{})},
	}
	for k := range 32 {
		l := []api.Member{{No: 7}, {No: 8}, {No: 9}}
		l[0].Id[k], l[2].Id[k] = 1, 128
		lists = append(lists, l)
	}
	chance := rand.New(rand.NewSource(7))
	for n := range 17 {
		lists = append(lists, tens(n))
		for range 6 {
			lists = append(lists, chanceMembers(chance, n))
		}
	}
	return lists
}

func noNumbers() []int {
	return []int{-1, -2, -15, -16, 16, 17, 31, 255, 256, 1 << 32, math.MaxInt, math.MinInt}
}

// wrongLists may not be: each has one fault alone, but for those of more than 16, whose numbers can't all be right.
func wrongLists() [][]api.Member {
	var lists [][]api.Member
	for n := 1; n <= 16; n++ {
		for place := range n {
			for _, no := range noNumbers() {
				l := tens(n)
				l[place].No = no
				lists = append(lists, l)
			}
			for ahead := range place {
				l := tens(n)
				l[place].No = l[ahead].No
				lists = append(lists, l)
				l = tens(n)
				l[place].Id = l[ahead].Id
				lists = append(lists, l)
			}
		}
	}
	for _, more := range []int{1, 2, 16, 1000, 1 << 16} {
		lists = append(lists, append(tens(16), make([]api.Member, more)...))
		l := tens(16)
		for i := range more {
			l = append(l, member(16+i, api.Id{0: 9, 29: byte(i >> 16), 30: byte(i >> 8), 31: byte(i)}))
		}
		lists = append(lists, l)
	}
	return lists
}

// shown is a list in short.
func shown(l []api.Member) string {
	if len(l) > 4 {
		return fmt.Sprintf("%d members", len(l))
	}
	return fmt.Sprintf("%x", l)
}

// answer is what a call told, whichever it was.
type answer struct {
	l   []api.Member
	m   api.Member
	err api.Errno
}

func (a answer) same(b answer) bool {
	return a.m == b.m && a.err == b.err && slices.Equal(a.l, b.l)
}

// calls are all calls with an error, of one number, one count and one identifier.
func calls(no, many int, id api.Id) map[string]func([]api.Member) answer {
	return map[string]func([]api.Member) answer{
		"Sorted": func(l []api.Member) answer { s, err := Sorted(l); return answer{l: s, err: err} },
		"Owner":  func(l []api.Member) answer { m, err := Owner(l, id); return answer{m: m, err: err} },
		"After":  func(l []api.Member) answer { s, err := After(l, no, many); return answer{l: s, err: err} },
		"Before": func(l []api.Member) answer { m, err := Before(l, no); return answer{m: m, err: err} },
	}
}

// refused tells it, if an answer is not just that error, with nothing beside it.
func refused(t *testing.T, what string, got answer, want api.Errno) {
	t.Helper()
	if !got.same(answer{err: want}) {
		t.Errorf("%s: %v, want %d and nothing", what, got, want)
	}
}

var ringSize = new(big.Int).Lsh(big.NewInt(1), 256)

// way is the way from a to b as a number, worked out without package ident.
func way(a, b api.Id) *big.Int {
	n := new(big.Int).Sub(new(big.Int).SetBytes(b[:]), new(big.Int).SetBytes(a[:]))
	return n.Mod(n, ringSize)
}

// nearest is the member to which a measure is the least.
func nearest(l []api.Member, measure func(api.Member) *big.Int) api.Member {
	best := l[0]
	for _, m := range l[1:] {
		if measure(m).Cmp(measure(best)) < 0 {
			best = m
		}
	}
	return best
}

func others(l []api.Member, self api.Member) []api.Member {
	return slices.DeleteFunc(slices.Clone(l), func(m api.Member) bool { return m == self })
}

func wantOwner(l []api.Member, id api.Id) api.Member {
	return nearest(l, func(m api.Member) *big.Int { return way(id, m.Id) })
}

func wantBefore(l []api.Member, self api.Member) api.Member {
	if len(l) == 1 {
		return self
	}
	return nearest(others(l, self), func(m api.Member) *big.Int { return way(m.Id, self.Id) })
}

// wantAfter goes round the ring from member to member, each time to the next one.
func wantAfter(l []api.Member, self api.Member, many int) []api.Member {
	var follow []api.Member
	for range many {
		if len(l) > 1 {
			at := self
			self = nearest(others(l, at), func(m api.Member) *big.Int { return way(at.Id, m.Id) })
		}
		follow = append(follow, self)
	}
	return follow
}

// someIds are where members are, just ahead of them and behind them, across the ring, and at its ends.
func someIds(l []api.Member) []api.Id {
	ids := []api.Id{{}, filled(255), {0: 128}, {31: 1}, {16: 128}}
	for _, m := range l {
		behind, _ := ident.Step(m.Id, 0)
		across, _ := ident.Step(m.Id, 255)
		ids = append(ids, m.Id, behind, ident.Far(api.Id{31: 1}, m.Id), across)
	}
	return ids
}

func TestMembersThatMayBe(t *testing.T) {
	for _, l := range rightLists() {
		if !Right(l) {
			t.Errorf("%s may be", shown(l))
		}
	}
}

func TestMembersThatMayNotBe(t *testing.T) {
	for _, l := range wrongLists() {
		if Right(l) {
			t.Errorf("%s may not be", shown(l))
		}
	}
}

func TestEachNumberIsHeldAgainstItsEnds(t *testing.T) {
	for no := -300; no < 300; no++ {
		want := no >= 0 && no <= 15
		if got := Right([]api.Member{{No: no}}); got != want {
			t.Errorf("a member of number %d: %v", no, got)
		}
		l := append(tens(1), member(no, filled(255)))
		want = want && no != l[0].No
		if got := Right(l); got != want {
			t.Errorf("%s: %v", shown(l), got)
		}
	}
}

func TestIdentifiersOfOneOtherBitAreUnlike(t *testing.T) {
	for _, a := range []api.Id{{}, filled(255), filled(85), {15: 255, 16: 1}} {
		for k := range 256 {
			b := a
			b[k/8] ^= 128 >> (k % 8)
			if !Right([]api.Member{member(1, a), member(2, b)}) {
				t.Errorf("bit %d of %x tells two members apart", k, a)
			}
		}
		if Right([]api.Member{member(1, a), member(2, a)}) {
			t.Errorf("two members at %x", a)
		}
	}
}

func TestMembersThatMayNotBeAreAWrongArgumentAheadOfAllElse(t *testing.T) {
	for _, l := range wrongLists() {
		for _, no := range []int{0, 3, 8, 15, -1, 16, math.MaxInt, math.MinInt} {
			for name, call := range calls(no, no, filled(85)) {
				refused(t, name+" of "+shown(l), call(l), api.ErrArg)
			}
			got, err := After(l, no, 3)
			refused(t, "After of "+shown(l), answer{l: got, err: err}, api.ErrArg)
		}
	}
}

func TestSortedOfAllLists(t *testing.T) {
	for _, l := range rightLists() {
		got, err := Sorted(l)
		if err != api.OK || len(got) != len(l) {
			t.Errorf("%s: %s, %d", shown(l), shown(got), err)
		}
		for i, m := range got {
			if !slices.Contains(l, m) {
				t.Errorf("%s: %x is none of them", shown(l), m)
			}
			if i > 0 && way(api.Id{}, got[i-1].Id).Cmp(way(api.Id{}, m.Id)) >= 0 {
				t.Errorf("%s: %x is ahead of %x", shown(l), got[i-1], m)
			}
		}
	}
}

func TestSortedHasTheHighestByteFirst(t *testing.T) {
	want := []api.Member{
		member(9, api.Id{}),
		member(3, api.Id{31: 1}),
		member(12, api.Id{31: 255}),
		member(0, api.Id{30: 1}),
		member(15, api.Id{0: 1}),
		member(7, api.Id{0: 127, 31: 255}),
		member(8, api.Id{0: 128}),
		member(1, filled(255)),
	}
	chance := rand.New(rand.NewSource(8))
	for range 200 {
		l := slices.Clone(want)
		chance.Shuffle(len(l), func(i, k int) { l[i], l[k] = l[k], l[i] })
		if got, err := Sorted(l); err != api.OK || !slices.Equal(got, want) {
			t.Errorf("%x: %x, %d", l, got, err)
		}
	}
}

func TestOwnerOfAllIdentifiers(t *testing.T) {
	for _, l := range rightLists() {
		if len(l) == 0 {
			continue
		}
		for _, id := range someIds(l) {
			if got, err := Owner(l, id); err != api.OK || got != wantOwner(l, id) {
				t.Errorf("%x of %s: %x, %d, want %x", id, shown(l), got, err, wantOwner(l, id))
			}
		}
	}
}

func TestOwnerOfNone(t *testing.T) {
	for _, l := range [][]api.Member{nil, {}, make([]api.Member, 0, 9)} {
		for _, id := range someIds(tens(16)) {
			got, err := Owner(l, id)
			refused(t, "no members", answer{m: got, err: err}, api.ErrNone)
		}
	}
}

func TestTheChaptersExample(t *testing.T) {
	l := []api.Member{member(4, api.Id{31: 10}), member(2, api.Id{31: 20})}
	for at, no := range map[byte]int{0: 4, 9: 4, 10: 4, 11: 2, 15: 2, 19: 2, 20: 2, 21: 4, 255: 4} {
		if got, err := Owner(l, api.Id{31: at}); err != api.OK || got.No != no {
			t.Errorf("%d belongs to number %d, %d, want %d", at, got.No, err, no)
		}
	}
	if got, err := Owner(l, filled(255)); err != api.OK || got.No != 4 {
		t.Errorf("the last one belongs to number %d, %d", got.No, err)
	}
}

func TestTheWholesFirstExample(t *testing.T) {
	l := []api.Member{member(1, api.Id{0: 0x40}), member(2, api.Id{0: 0x80})}
	for at, no := range map[byte]int{0x3f: 1, 0x40: 2, 0x50: 2, 0x7f: 2, 0x80: 1, 0x90: 1, 0xff: 1, 0: 1} {
		if got, err := Owner(l, api.Id{at, 7}); err != api.OK || got.No != no {
			t.Errorf("what begins with %x belongs to number %d, %d, want %d", at, got.No, err, no)
		}
	}
}

func TestAfterOfAllCounts(t *testing.T) {
	for _, l := range rightLists() {
		for _, self := range l {
			for many := range 17 {
				got, err := After(l, self.No, many)
				if want := wantAfter(l, self, many); err != api.OK || !slices.Equal(got, want) {
					t.Errorf("%d behind %x of %s: %x, %d, want %x", many, self, shown(l), got, err, want)
				}
			}
		}
	}
}

func TestAfterGoesRoundTheRing(t *testing.T) {
	a, b, c := member(5, api.Id{31: 1}), member(0, api.Id{0: 128}), member(9, filled(255))
	l := []api.Member{c, a, b}
	for self, want := range map[api.Member][]api.Member{
		a: {b, c, a, b, c, a, b},
		b: {c, a, b, c, a, b, c},
		c: {a, b, c, a, b, c, a},
	} {
		for many := range want {
			if got, err := After(l, self.No, many); err != api.OK || !slices.Equal(got, want[:many]) {
				t.Errorf("%d behind %x: %x, %d", many, self, got, err)
			}
		}
	}
	for many := range 17 {
		if got, err := After([]api.Member{b}, 0, many); err != api.OK || !slices.Equal(got, slices.Repeat([]api.Member{b}, many)) {
			t.Errorf("%d behind one alone: %x, %d", many, got, err)
		}
	}
}

func TestAfterOfWrongCounts(t *testing.T) {
	for _, l := range rightLists() {
		for _, many := range noCounts() {
			for no := -2; no < 18; no++ {
				got, err := After(l, no, many)
				refused(t, fmt.Sprint(many, " behind ", no), answer{l: got, err: err}, api.ErrArg)
			}
		}
	}
}

func noCounts() []int {
	return []int{-1, -2, -16, 17, 18, 32, 256, 1 << 32, math.MaxInt, math.MaxInt - 1, math.MinInt, math.MinInt + 1}
}

func TestBeforeOfAllMembers(t *testing.T) {
	for _, l := range rightLists() {
		for _, self := range l {
			if got, err := Before(l, self.No); err != api.OK || got != wantBefore(l, self) {
				t.Errorf("ahead of %x of %s: %x, %d, want %x", self, shown(l), got, err, wantBefore(l, self))
			}
		}
	}
}

func TestBeforeGoesRoundTheRing(t *testing.T) {
	a, b, c := member(5, api.Id{31: 1}), member(0, api.Id{0: 128}), member(9, filled(255))
	for self, want := range map[api.Member]api.Member{a: c, b: a, c: b} {
		if got, err := Before([]api.Member{b, c, a}, self.No); err != api.OK || got != want {
			t.Errorf("ahead of %x: %x, %d", self, got, err)
		}
	}
	if got, err := Before([]api.Member{c, a}, 5); err != api.OK || got != c {
		t.Errorf("ahead of one of two: %x, %d", got, err)
	}
	if got, err := Before([]api.Member{c}, 9); err != api.OK || got != c {
		t.Errorf("ahead of one alone: %x, %d", got, err)
	}
}

func TestThereIsNoMemberOfAnotherNumber(t *testing.T) {
	for _, l := range rightLists() {
		numbers := noNumbers()
		for no := range 16 {
			if !slices.ContainsFunc(l, func(m api.Member) bool { return m.No == no }) {
				numbers = append(numbers, no)
			}
		}
		for _, no := range numbers {
			for many := range 17 {
				got, err := After(l, no, many)
				refused(t, fmt.Sprint(many, " behind ", no), answer{l: got, err: err}, api.ErrNone)
			}
			got, err := Before(l, no)
			refused(t, fmt.Sprint("ahead of ", no), answer{m: got, err: err}, api.ErrNone)
		}
	}
}

func TestAnIdentifierBelongsToWhereItIsOnTheWay(t *testing.T) {
	for _, l := range rightLists() {
		for _, id := range someIds(l) {
			var of []api.Member
			for _, m := range l {
				ahead, _ := Before(l, m.No)
				if ident.In(id, ahead.Id, m.Id) {
					of = append(of, m)
				}
			}
			owner, err := Owner(l, id)
			if len(l) > 0 && (err != api.OK || !slices.Equal(of, []api.Member{owner})) {
				t.Errorf("%x of %s is on the way to %x, and belongs to %x", id, shown(l), of, owner)
			}
		}
	}
}

func TestAMemberThatComesTakesFromJustTheOneBehindIt(t *testing.T) {
	for _, l := range rightLists() {
		for place, comes := range l {
			ahead := slices.Delete(slices.Clone(l), place, place+1)
			if len(ahead) == 0 {
				continue
			}
			behind, _ := After(l, comes.No, 1)
			from, _ := Before(l, comes.No)
			for _, id := range someIds(l) {
				was, _ := Owner(ahead, id)
				is, _ := Owner(l, id)
				taken := ident.In(id, from.Id, comes.Id)
				if taken && (is != comes || was != behind[0]) || !taken && is != was {
					t.Errorf("%x comes to %s: %x was of %x, is of %x", comes, shown(ahead), id, was, is)
				}
			}
		}
	}
}

func TestTheOneAheadOfTheOneThatFollowsIsIt(t *testing.T) {
	for _, l := range rightLists() {
		for _, self := range l {
			next, _ := After(l, self.No, 1)
			if got, err := Before(l, next[0].No); err != api.OK || got != self {
				t.Errorf("%x of %s: ahead of the one that follows is %x, %d", self, shown(l), got, err)
			}
			ahead, _ := Before(l, self.No)
			if got, err := After(l, ahead.No, 1); err != api.OK || got[0] != self {
				t.Errorf("%x of %s: behind the one ahead is %x, %d", self, shown(l), got, err)
			}
			round, _ := After(l, self.No, len(l))
			if round[len(l)-1] != self || len(l) > 1 && round[len(l)-2] != ahead {
				t.Errorf("%x of %s: its round is %x", self, shown(l), round)
			}
		}
	}
}

func TestTheOrderOfMembersDoesNotCount(t *testing.T) {
	chance := rand.New(rand.NewSource(9))
	for _, l := range rightLists() {
		for _, no := range []int{0, 3, 8, 16} {
			for name, call := range calls(no, 16, filled(85)) {
				want := call(l)
				other := slices.Clone(l)
				chance.Shuffle(len(other), func(i, k int) { other[i], other[k] = other[k], other[i] })
				if got := call(other); !got.same(want) {
					t.Errorf("%s of %s: %v, in another order %v", name, shown(l), want, got)
				}
			}
		}
	}
}

func TestCallsChangeNothing(t *testing.T) {
	for _, l := range append(rightLists(), wrongLists()...) {
		room := slices.Grow(slices.Clone(l), 40)
		room = append(room, member(77, filled(7)))[:len(l)]
		ahead := slices.Clone(room[:len(l)+1])
		Right(room)
		for _, many := range []int{0, 1, 16, 17} {
			for name, call := range calls(3, many, filled(85)) {
				if call(room); !slices.Equal(ahead, room[:len(l)+1]) {
					t.Fatalf("%s changed %s", name, shown(l))
				}
			}
		}
	}
}

func TestAnswersAreNewMemory(t *testing.T) {
	for n := 1; n <= 16; n++ {
		for name, call := range calls(tens(n)[0].No, 16, filled(85)) {
			l := tens(n)
			one := call(l)
			for _, told := range [][]api.Member{one.l, one.l[:cap(one.l)]} {
				for i := range told {
					told[i] = member(99, filled(9))
				}
			}
			if !slices.Equal(l, tens(n)) {
				t.Errorf("an answer of %s shares memory with its members", name)
			}
			if two := call(l); slices.Contains(two.l, member(99, filled(9))) {
				t.Errorf("two answers of %s share memory", name)
			}
		}
	}
}

func TestANilListCountsAsAnEmptyOne(t *testing.T) {
	for name, call := range calls(0, 3, api.Id{}) {
		if one, two := call(nil), call([]api.Member{}); !one.same(two) {
			t.Errorf("%s: %v and %v", name, one, two)
		}
	}
	if !Right(nil) || !Right([]api.Member{}) {
		t.Error("no members may be")
	}
	if got, err := Sorted(nil); err != api.OK || len(got) != 0 {
		t.Errorf("no members, sorted: %x, %d", got, err)
	}
}
