package lookup

import (
	"math"
	"math/big"
	"math/rand"
	"slices"
	"testing"

	"posthouse/api"
	"posthouse/chord"
)

// What a server answers is worked out here a second time, from what it knows of those that live, and from ways as big numbers.

var ringSize = new(big.Int).Lsh(big.NewInt(1), 256)

// moved is the identifier so far behind another one, or ahead of it if that is below 0.
func moved(a api.Id, by int64) api.Id {
	n := new(big.Int).Add(new(big.Int).SetBytes(a[:]), big.NewInt(by))
	var b api.Id
	n.Mod(n, ringSize).FillBytes(b[:])
	return b
}

// way is the way from a to b as a number.
func way(a, b api.Id) *big.Int {
	n := new(big.Int).Sub(new(big.Int).SetBytes(b[:]), new(big.Int).SetBytes(a[:]))
	return n.Mod(n, ringSize)
}

// whole is the way from a to b, that from one to itself being the whole ring.
func whole(a, b api.Id) *big.Int {
	if a == b {
		return ringSize
	}
	return way(a, b)
}

func at(no int, id byte) api.Member { return api.Member{No: no, Id: api.Id{31: id}} }

func nobody() api.Member { return api.Member{No: -1} }

func row(l ...api.Member) []api.Member { return l }

func over(l ...api.Node) api.Overlay { return api.Overlay{Nodes: l} }

// knows is a node without fingers.
func knows(self, pred api.Member, succs ...api.Member) api.Node {
	return api.Node{Self: self, Pred: pred, Succs: succs}
}

func lone(m api.Member) api.Node { return knows(m, nobody(), m) }

func wrongNumbers() []int {
	return []int{-1, -2, -16, 16, 17, 32, 255, 256, 1 << 32, math.MaxInt, math.MinInt}
}

// selvesOf is the servers of an overlay by their numbers.
func selvesOf(o api.Overlay) map[int]api.Member {
	selves := map[int]api.Member{}
	for _, n := range o.Nodes {
		selves[n.Self.No] = n.Self
	}
	return selves
}

// round is all servers of an overlay by the ways to them from an identifier: the first one is its owner.
func round(o api.Overlay, from api.Id) []api.Member {
	var l []api.Member
	for _, m := range selvesOf(o) {
		l = append(l, m)
	}
	slices.SortFunc(l, func(a, b api.Member) int { return way(from, a.Id).Cmp(way(from, b.Id)) })
	return l
}

// wantAnswer is what a node answers for an identifier, and whether that is the owner.
func wantAnswer(n api.Node, alive map[int]api.Member, id api.Id) (api.Member, bool) {
	self := n.Self.Id
	if pred, lives := alive[n.Pred.No]; lives && id != pred.Id && whole(pred.Id, id).Cmp(way(pred.Id, self)) <= 0 {
		return n.Self, true
	}
	var follow []api.Member
	for _, m := range n.Succs {
		if _, lives := alive[m.No]; lives && m.No != n.Self.No {
			follow = append(follow, m)
		}
	}
	if len(follow) == 0 {
		return n.Self, true
	}
	if id != self && way(self, id).Cmp(way(self, follow[0].Id)) <= 0 {
		return follow[0], true
	}
	// The first of those that follow is on the way to all that is behind it, and so one is always found.
	var closest api.Member
	far := new(big.Int)
	for _, m := range append(follow, n.Fingers...) {
		_, lives := alive[m.No]
		if w := way(self, m.Id); lives && w.Cmp(whole(self, id)) < 0 && w.Cmp(far) > 0 {
			closest, far = m, w
		}
	}
	return closest, false
}

// wantAsked is all that are asked from a server on, if there are hops enough, and the owner.
func wantAsked(o api.Overlay, from int, id api.Id) ([]int, api.Member) {
	alive := selvesOf(o)
	var asked []int
	for {
		place := slices.IndexFunc(o.Nodes, func(n api.Node) bool { return n.Self.No == from })
		asked = append(asked, from)
		m, isOwner := wantAnswer(o.Nodes[place], alive, id)
		if isOwner || len(asked) > 100 {
			return asked, m
		}
		from = m.No
	}
}

// wantWalk is what Walk answers, of an overlay that may be.
func wantWalk(o api.Overlay, from int, id api.Id, hops int) ([]int, api.Member, api.Errno) {
	if hops < 0 || hops > 16 {
		return nil, api.Member{}, api.ErrArg
	}
	if _, lives := selvesOf(o)[from]; !lives {
		return nil, api.Member{}, api.ErrDown
	}
	asked, owner := wantAsked(o, from, id)
	if hops < len(asked)-1 {
		return nil, api.Member{}, api.ErrHops
	}
	if asked[len(asked)-1] != owner.No {
		asked = append(asked, owner.No)
	}
	return asked, owner, api.OK
}

// mustWalk asks that a walk answers as it should.
func mustWalk(t *testing.T, o api.Overlay, from int, id api.Id, hops int) ([]int, api.Member, api.Errno) {
	t.Helper()
	nos, owner, err := Walk(o, from, id, hops)
	wantNos, want, wantErr := wantWalk(o, from, id, hops)
	if !slices.Equal(nos, wantNos) || owner != want || err != wantErr {
		t.Fatalf("from %d to %x with %d hops in %+v: %v, %v, %d, want %v, %v, %d", from, id, hops, o, nos, owner, err, wantNos, want, wantErr)
	}
	return nos, owner, err
}

// chanceId is often one at the ring's ends.
func chanceId(chance *rand.Rand) api.Id {
	var a api.Id
	switch chance.Intn(3) {
	case 0:
		return moved(a, int64(chance.Intn(9)-4))
	case 1:
		return moved(api.Id{0: byte(chance.Intn(256))}, int64(chance.Intn(3)-1))
	}
	chance.Read(a[:])
	return a
}

// chanceSelves are so many servers by chance, whose numbers are in no order round the ring.
func chanceSelves(chance *rand.Rand, many int) []api.Member {
	var l []api.Member
	for _, no := range chance.Perm(16)[:many] {
		m := api.Member{No: no, Id: chanceId(chance)}
		for slices.ContainsFunc(l, func(other api.Member) bool { return other.Id == m.Id }) {
			m.Id = chanceId(chance)
		}
		l = append(l, m)
	}
	return l
}

// settled is the stable overlay of some servers, without fingers.
func settled(t *testing.T, selves ...api.Member) api.Overlay {
	t.Helper()
	var o api.Overlay
	for _, m := range selves {
		succ := m
		if l := round(o, m.Id); len(l) > 0 {
			succ = l[0]
		}
		o = later(t, must(t)(chord.Join(o, m, succ.No)))
	}
	if !chord.Stable(o) {
		t.Fatalf("not stable: %+v", o)
	}
	return o
}

// must makes a question of whether a call of package chord went well.
func must(t *testing.T) func(o api.Overlay, err api.Errno) api.Overlay {
	return func(o api.Overlay, err api.Errno) api.Overlay {
		t.Helper()
		if err != api.OK {
			t.Fatalf("chord: %d", err)
		}
		return o
	}
}

// later is an overlay 8 rounds later.
func later(t *testing.T, o api.Overlay) api.Overlay {
	t.Helper()
	for range 8 {
		o = must(t)(chord.Round(o))
	}
	return o
}

// thin is some servers of which each knows just the one that follows it, and none ahead.
func thin(selves ...api.Member) api.Overlay {
	var o api.Overlay
	for _, m := range selves {
		o.Nodes = append(o.Nodes, lone(m))
	}
	for i := range o.Nodes {
		l := round(o, o.Nodes[i].Self.Id)
		o.Nodes[i].Succs = row(l[1%len(l)])
	}
	slices.SortFunc(o.Nodes, func(a, b api.Node) int { return a.Self.No - b.Self.No })
	return o
}

// others are some members by chance but one: those that live as they are, and others by any identifier.
func others(chance *rand.Rand, alive map[int]api.Member, but, many int) []api.Member {
	var l []api.Member
	for _, no := range slices.DeleteFunc(chance.Perm(16), func(no int) bool { return no == but })[:many] {
		m, lives := alive[no]
		if !lives {
			m = api.Member{No: no, Id: chanceId(chance)}
		}
		l = append(l, m)
	}
	return l
}

// chanceOverlay is one by chance that may be, in which any server knows any members.
func chanceOverlay(chance *rand.Rand) api.Overlay {
	o := thin(chanceSelves(chance, chance.Intn(17))...)
	alive := selvesOf(o)
	most := 1 + chance.Intn(15)
	for i := range o.Nodes {
		n := &o.Nodes[i]
		if chance.Intn(3) == 0 {
			n.Pred = others(chance, alive, n.Self.No, 1)[0]
		}
		if chance.Intn(3) == 0 {
			n.Succs = others(chance, alive, n.Self.No, 1+chance.Intn(4))
		}
		if chance.Intn(3) == 0 {
			n.Fingers = others(chance, alive, n.Self.No, chance.Intn(most+1))
		}
	}
	return o
}

// withFingers is an overlay with fingers by chance, some of those that do not live.
func withFingers(chance *rand.Rand, o api.Overlay) api.Overlay {
	o = clone(o)
	for i := range o.Nodes {
		o.Nodes[i].Fingers = others(chance, selvesOf(o), o.Nodes[i].Self.No, chance.Intn(16))
	}
	return o
}

// idsOf are the identifiers of all that live and that are known, those just beside them, and some others.
func idsOf(chance *rand.Rand, o api.Overlay) []api.Id {
	l := []api.Id{{}, moved(api.Id{}, -1), chanceId(chance), chanceId(chance)}
	for _, n := range o.Nodes {
		known := slices.Concat(row(n.Self, n.Pred), n.Succs, n.Fingers)
		for _, m := range known {
			l = append(l, moved(m.Id, -1), m.Id, moved(m.Id, 1))
		}
	}
	slices.SortFunc(l, func(a, b api.Id) int { return slices.Compare(a[:], b[:]) })
	return slices.Compact(l)
}

func clone(o api.Overlay) api.Overlay {
	o.Nodes = slices.Clone(o.Nodes)
	for i, n := range o.Nodes {
		o.Nodes[i].Succs, o.Nodes[i].Fingers = slices.Clone(n.Succs), slices.Clone(n.Fingers)
	}
	return o
}

func same(a, b api.Overlay) bool {
	return slices.EqualFunc(a.Nodes, b.Nodes, func(a, b api.Node) bool {
		return a.Self == b.Self && a.Pred == b.Pred && slices.Equal(a.Succs, b.Succs) && slices.Equal(a.Fingers, b.Fingers)
	})
}

// five are servers whose numbers are in no order round the ring: 2, 9, 5, 12, 6, and then 2 again.
func five() []api.Member { return row(at(2, 20), at(5, 50), at(6, 90), at(9, 30), at(12, 60)) }

// sixteen are servers at 10, 20 and so on to 160: 0, 7, 14, 5 and so on, the number 7 farther each time.
func sixteen() []api.Member {
	var l []api.Member
	for i := range 16 {
		l = append(l, at(7*i%16, byte(10*i+10)))
	}
	return l
}

// wrongOverlays may not be: each has one fault.
func wrongOverlays(t *testing.T) []api.Overlay {
	three, fifth := at(3, 30), at(5, 50)
	l := []api.Overlay{
		over(api.Node{}),
		over(lone(fifth), lone(three)),
		over(lone(three), lone(three)),
		over(lone(three), lone(at(5, 30))),
		over(lone(three), api.Node{Self: fifth}),
		over(lone(three), knows(fifth, nobody())),
		over(lone(three), knows(fifth, fifth, three)),
		over(lone(three), knows(fifth, api.Member{No: -1, Id: three.Id}, three)),
		over(lone(three), knows(fifth, api.Member{}, three), lone(at(16, 60))),
		over(lone(three), knows(fifth, at(16, 1), three)),
		over(lone(three), knows(fifth, at(3, 31), three)),
		over(lone(three), knows(fifth, three, at(3, 31))),
		over(lone(three), knows(fifth, three, three, three)),
		over(lone(three), knows(fifth, three, three, fifth)),
		over(lone(three), knows(fifth, three, at(0, 1), at(1, 2), at(2, 3), three, at(4, 4))),
		over(lone(three), api.Node{Self: fifth, Pred: three, Succs: row(three), Fingers: row(fifth)}),
		over(lone(three), api.Node{Self: fifth, Pred: three, Succs: row(three), Fingers: row(at(3, 29))}),
		over(lone(three), api.Node{Self: fifth, Pred: three, Succs: row(three), Fingers: row(three, three)}),
		over(slices.Concat(thin(sixteen()...).Nodes, over(lone(at(16, 250))).Nodes)...),
		over(slices.Repeat(thin(sixteen()...).Nodes, 2)...),
	}
	for _, no := range wrongNumbers() {
		l = append(l, over(lone(at(no, 1))), over(lone(three), lone(at(no, 1))))
	}
	for _, o := range l {
		if chord.Right(o) {
			t.Fatalf("may be: %+v", o)
		}
	}
	return l
}
