package chord

import (
	"math"
	"math/big"
	"math/rand"
	"slices"

	"posthouse/api"
	"posthouse/node"
)

// What an overlay comes to be is worked out here a second time, from nodes by their numbers, and from ways as big numbers.

var ringSize = new(big.Int).Lsh(big.NewInt(1), 256)

// way is the way from a to b as a number, worked out without package ident.
func way(a, b api.Id) *big.Int {
	n := new(big.Int).Sub(new(big.Int).SetBytes(b[:]), new(big.Int).SetBytes(a[:]))
	return n.Mod(n, ringSize)
}

func last() api.Id {
	var id api.Id
	for i := range id {
		id[i] = 255
	}
	return id
}

func at(no int, id byte) api.Member { return api.Member{No: no, Id: api.Id{31: id}} }

func nobody() api.Member { return api.Member{No: -1} }

func row(l ...api.Member) []api.Member { return l }

func over(l ...api.Node) api.Overlay { return api.Overlay{Nodes: l} }

// lone is a node that knows no other one.
func lone(m api.Member) api.Node { return api.Node{Self: m, Pred: nobody(), Succs: row(m)} }

func wrongNumbers() []int {
	return []int{-1, -2, -16, 16, 17, 32, 255, 256, 1 << 32, math.MaxInt, math.MinInt}
}

// others is all servers but one, by the ways to them from it.
func others(selves []api.Member, self api.Member) []api.Member {
	var l []api.Member
	for _, m := range selves {
		if m != self {
			l = append(l, m)
		}
	}
	slices.SortFunc(l, func(a, b api.Member) int { return way(self.Id, a.Id).Cmp(way(self.Id, b.Id)) })
	return l
}

// settled is the stable overlay of some servers, without fingers.
func settled(selves ...api.Member) api.Overlay {
	nodes := map[int]api.Node{}
	for _, m := range selves {
		n := lone(m)
		if l := others(selves, m); len(l) > 0 {
			n.Pred, n.Succs = l[len(l)-1], l[:min(4, len(l))]
		}
		nodes[m.No] = n
	}
	return inOrder(nodes)
}

func byNumber(o api.Overlay) map[int]api.Node {
	nodes := map[int]api.Node{}
	for _, n := range o.Nodes {
		nodes[n.Self.No] = n
	}
	return nodes
}

func inOrder(nodes map[int]api.Node) api.Overlay {
	var o api.Overlay
	for no := range 16 {
		if n, lives := nodes[no]; lives {
			o.Nodes = append(o.Nodes, n)
		}
	}
	return o
}

func selvesOf(o api.Overlay) []api.Member {
	var l []api.Member
	for _, n := range o.Nodes {
		l = append(l, n.Self)
	}
	return l
}

func knownBy(n api.Node) []api.Member {
	return append(append(row(n.Pred), n.Succs...), n.Fingers...)
}

func wantRight(o api.Overlay) bool {
	selves, ids, ahead := map[int]api.Member{}, map[api.Id]int{}, -1
	for _, n := range o.Nodes {
		if n.Self.No <= ahead || n.Self.No > 15 {
			return false
		}
		ahead = n.Self.No
		selves[n.Self.No] = n.Self
		ids[n.Self.Id]++
	}
	if len(ids) < len(o.Nodes) {
		return false
	}
	for _, n := range o.Nodes {
		if !node.Right(n) {
			return false
		}
		for _, m := range knownBy(n) {
			if self, lives := selves[m.No]; lives && self != m {
				return false
			}
		}
	}
	return true
}

func wantStable(o api.Overlay) bool {
	return wantRight(o) && same(bare(o), settled(selvesOf(o)...))
}

func wantJoin(o api.Overlay, m api.Member, succ int) (api.Overlay, api.Errno) {
	if !wantRight(o) || m.No < 0 || m.No > 15 {
		return api.Overlay{}, api.ErrArg
	}
	nodes := byNumber(o)
	for _, n := range nodes {
		if n.Self.No == m.No || n.Self.Id == m.Id {
			return api.Overlay{}, api.ErrTwice
		}
		for _, other := range knownBy(n) {
			if other.No == m.No && other.Id != m.Id {
				return api.Overlay{}, api.ErrTwice
			}
		}
	}
	comer := lone(m)
	if len(nodes) > 0 {
		s, lives := nodes[succ]
		if !lives {
			return api.Overlay{}, api.ErrDown
		}
		comer.Succs = row(s.Self)
	}
	nodes[m.No] = comer
	return inOrder(nodes), api.OK
}

// fault is of an overlay first, and then of the number of a server of it.
func fault(o api.Overlay, no int) api.Errno {
	if !wantRight(o) {
		return api.ErrArg
	}
	if _, lives := byNumber(o)[no]; !lives {
		return api.ErrDown
	}
	return api.OK
}

func wantTend(o api.Overlay, no int) (api.Overlay, api.Errno) {
	if err := fault(o, no); err != api.OK {
		return api.Overlay{}, err
	}
	nodes := byNumber(o)
	n := nodes[no]
	for dead := range 16 {
		if _, lives := nodes[dead]; !lives {
			n, _ = node.Drop(n, dead)
		}
	}
	nodes[no] = n
	s := nodes[n.Succs[0].No]
	if _, lives := nodes[s.Pred.No]; !lives {
		s.Pred = nobody()
	}
	n, _ = node.Follow(n, s)
	nodes[no] = n
	if first, lives := nodes[n.Succs[0].No]; lives {
		nodes[first.Self.No], _ = node.Notify(first, n.Self)
	}
	return inOrder(nodes), api.OK
}

func wantRound(o api.Overlay) (api.Overlay, api.Errno) {
	if !wantRight(o) {
		return api.Overlay{}, api.ErrArg
	}
	for _, m := range selvesOf(o) {
		o, _ = wantTend(o, m.No)
	}
	return o, api.OK
}

func wantFail(o api.Overlay, no int) (api.Overlay, api.Errno) {
	if err := fault(o, no); err != api.OK {
		return api.Overlay{}, err
	}
	nodes := byNumber(o)
	delete(nodes, no)
	return inOrder(nodes), api.OK
}

func wantLeave(o api.Overlay, no int) (api.Overlay, api.Errno) {
	if err := fault(o, no); err != api.OK {
		return api.Overlay{}, err
	}
	nodes := byNumber(o)
	gone := nodes[no]
	delete(nodes, no)
	for own, was := range nodes {
		n, _ := node.Drop(was, no)
		if len(was.Succs) == 1 && was.Succs[0].No == no {
			var left []api.Member
			for _, m := range gone.Succs {
				if _, lives := nodes[m.No]; lives && m.No != own {
					left = append(left, m)
				}
			}
			if len(left) > 0 {
				n.Succs = left
			}
		}
		if _, lives := nodes[gone.Pred.No]; was.Pred.No == no && lives && gone.Pred.No != own {
			n.Pred = gone.Pred
		}
		nodes[own] = n
	}
	return inOrder(nodes), api.OK
}

func wantPoint(o api.Overlay, no, to int) (api.Overlay, api.Errno) {
	if err := fault(o, no); err != api.OK {
		return api.Overlay{}, err
	}
	nodes := byNumber(o)
	other, lives := nodes[to]
	if !lives {
		return api.Overlay{}, api.ErrDown
	}
	if to == no {
		return api.Overlay{}, api.ErrArg
	}
	n := nodes[no]
	if !slices.Contains(n.Fingers, other.Self) {
		n.Fingers = append(slices.Clone(n.Fingers), other.Self)
	}
	nodes[no] = n
	return inOrder(nodes), api.OK
}

func sameNode(a, b api.Node) bool {
	return a.Self == b.Self && a.Pred == b.Pred && slices.Equal(a.Succs, b.Succs) && slices.Equal(a.Fingers, b.Fingers)
}

func same(a, b api.Overlay) bool { return slices.EqualFunc(a.Nodes, b.Nodes, sameNode) }

// isZero tells whether an overlay is the zero one, as it is beside an error.
func isZero(o api.Overlay) bool { return len(o.Nodes) == 0 }

func clone(o api.Overlay) api.Overlay {
	o.Nodes = slices.Clone(o.Nodes)
	for i, n := range o.Nodes {
		o.Nodes[i].Succs, o.Nodes[i].Fingers = slices.Clone(n.Succs), slices.Clone(n.Fingers)
	}
	return o
}

// bare is an overlay without its fingers.
func bare(o api.Overlay) api.Overlay {
	o = clone(o)
	for i := range o.Nodes {
		o.Nodes[i].Fingers = nil
	}
	return o
}

// tightIds are round the ring's ends and its middle, few enough that they come twice.
func tightIds() []api.Id {
	before := last()
	before[31] = 254
	return []api.Id{{}, {31: 1}, {31: 2}, {31: 255}, {30: 1}, {0: 127, 31: 255}, {0: 128}, {0: 128, 31: 1}, before, last()}
}

func chanceId(chance *rand.Rand) api.Id {
	if chance.Intn(2) > 0 {
		ids := tightIds()
		return ids[chance.Intn(len(ids))]
	}
	var a api.Id
	chance.Read(a[:])
	return a
}

// chanceSelves are so many servers by chance, whose numbers are in no order round the ring.
func chanceSelves(chance *rand.Rand, many int) []api.Member {
	var l []api.Member
	used := map[api.Id]int{}
	for _, no := range chance.Perm(16)[:many] {
		id := chanceId(chance)
		for used[id] > 0 {
			id = chanceId(chance)
		}
		used[id]++
		l = append(l, api.Member{No: no, Id: id})
	}
	return l
}

// chanceOverlay is one by chance that may be, in which any server knows any other one, and those that do not live by any identifier.
func chanceOverlay(chance *rand.Rand) api.Overlay {
	selves := map[int]api.Member{}
	for _, m := range chanceSelves(chance, chance.Intn(1+min(16, 1<<chance.Intn(5)))) {
		selves[m.No] = m
	}
	nodes := map[int]api.Node{}
	for no, self := range selves {
		some := func(many int) []api.Member {
			var l []api.Member
			for _, other := range chance.Perm(16) {
				if m, lives := selves[other]; other != no && len(l) < many && (lives || chance.Intn(2) > 0) {
					if !lives {
						m = api.Member{No: other, Id: chanceId(chance)}
					}
					l = append(l, m)
				}
			}
			return l
		}
		n := lone(self)
		if l := some(chance.Intn(3)); len(l) > 0 {
			n.Pred = l[0]
		}
		if l := some(chance.Intn(5)); len(l) > 0 {
			n.Succs = l
		}
		n.Fingers = some(chance.Intn(16))
		nodes[no] = n
	}
	return inOrder(nodes)
}

// chanceStep is what comes of an overlay by any call with whatever arguments, often right ones, by the program and by the test's own way.
func chanceStep(chance *rand.Rand, o api.Overlay) (string, api.Overlay, api.Errno, api.Overlay, api.Errno) {
	number := func() int {
		if len(o.Nodes) > 0 && chance.Intn(4) > 0 {
			return o.Nodes[chance.Intn(len(o.Nodes))].Self.No
		}
		return chance.Intn(18) - 1
	}
	no, to := number(), number()
	var call string
	var got, want api.Overlay
	var err, wantErr api.Errno
	switch chance.Intn(10) {
	case 0, 1, 2:
		m := api.Member{No: chance.Intn(18) - 1, Id: chanceId(chance)}
		call = "join"
		got, err = Join(o, m, to)
		want, wantErr = wantJoin(o, m, to)
	case 3, 4:
		call = "tend"
		got, err = Tend(o, no)
		want, wantErr = wantTend(o, no)
	case 5:
		call = "round"
		got, err = Round(o)
		want, wantErr = wantRound(o)
	case 6:
		call = "fail"
		got, err = Fail(o, no)
		want, wantErr = wantFail(o, no)
	case 7:
		call = "leave"
		got, err = Leave(o, no)
		want, wantErr = wantLeave(o, no)
	default:
		call = "point"
		got, err = Point(o, no, to)
		want, wantErr = wantPoint(o, no, to)
	}
	return call, got, err, want, wantErr
}
