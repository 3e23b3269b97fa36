package chord

import (
	"math/rand"
	"slices"
	"testing"

	"posthouse/api"
)

// rounds is an overlay so many rounds later.
func rounds(t *testing.T, o api.Overlay, many int) api.Overlay {
	t.Helper()
	for range many {
		next, err := Round(o)
		if err != api.OK {
			t.Fatalf("a round of %+v: %d", o, err)
		}
		o = next
	}
	return o
}

// mustHeal asks that an overlay is the stable one of some servers, so many rounds later.
func mustHeal(t *testing.T, what string, o api.Overlay, err api.Errno, many int, selves []api.Member) {
	t.Helper()
	if err != api.OK {
		t.Fatalf("%s: %d", what, err)
	}
	healed := rounds(t, o, many)
	if !Stable(healed) || !same(bare(healed), settled(selves...)) {
		t.Fatalf("%s: %d rounds behind %+v comes %+v", what, many, o, healed)
	}
}

// owner is the server to which the way from an identifier is the shortest.
func owner(selves []api.Member, id api.Id) api.Member {
	return slices.MinFunc(selves, func(a, b api.Member) int { return way(id, a.Id).Cmp(way(id, b.Id)) })
}

// withFingers is an overlay with fingers by chance, some of those that do not live.
func withFingers(chance *rand.Rand, o api.Overlay) api.Overlay {
	o = clone(o)
	lives := byNumber(o)
	for i := range o.Nodes {
		for _, no := range chance.Perm(16)[:chance.Intn(16)] {
			m := api.Member{No: no, Id: chanceId(chance)}
			if other, is := lives[no]; is {
				m = other.Self
			}
			if no != o.Nodes[i].Self.No {
				o.Nodes[i].Fingers = append(o.Nodes[i].Fingers, m)
			}
		}
	}
	return o
}

// rings are servers whose numbers stand round the ring in each order of up to 4, and by chance of as many as there may be.
func rings(chance *rand.Rand) [][]api.Member {
	var l [][]api.Member
	ids := []byte{10, 20, 30, 40}
	for many := range 5 {
		for all := range 4 * 4 * 4 * 4 {
			var selves []api.Member
			for rest := all; len(selves) < many && !slices.ContainsFunc(selves, func(m api.Member) bool { return m.No == rest%4 }); rest /= 4 {
				selves = append(selves, at(rest%4, ids[len(selves)]))
			}
			if len(selves) == many && all < 1<<(2*many) {
				l = append(l, selves)
			}
		}
	}
	for many := 5; many <= 16; many++ {
		var up, down []api.Member
		for no := range many {
			up, down = append(up, at(no, byte(10*no+10))), append(down, at(no, byte(200-10*no)))
		}
		l = append(l, up, down, chanceSelves(chance, many))
	}
	return l
}

func without(selves []api.Member, gone ...api.Member) []api.Member {
	return slices.DeleteFunc(slices.Clone(selves), func(m api.Member) bool { return slices.Contains(gone, m) })
}

// TestStableStaysAsItIs but for fingers to those that do not live.
func TestStableStaysAsItIs(t *testing.T) {
	chance := rand.New(rand.NewSource(20))
	for _, selves := range rings(chance) {
		stable := settled(selves...)
		if got := rounds(t, stable, 3); !same(got, stable) {
			t.Errorf("behind %+v comes %+v", stable, got)
		}
		o := withFingers(chance, stable)
		want := clone(o)
		for i := range want.Nodes {
			n := &want.Nodes[i]
			n.Fingers = slices.DeleteFunc(n.Fingers, func(m api.Member) bool { return !slices.Contains(selves, m) })
		}
		for range 3 {
			next, err := Round(o)
			if err != api.OK || !Stable(o) || !same(next, want) {
				t.Fatalf("behind %+v comes %+v, %d", o, next, err)
			}
			o = next
		}
		for _, m := range selves {
			if got, err := Tend(o, m.No); err != api.OK || !same(got, o) {
				t.Errorf("%v tends itself in %+v: %+v, %d", m, o, got, err)
			}
		}
	}
}

// TestHealsOfOneThatGoes has each one fail, and leave.
func TestHealsOfOneThatGoes(t *testing.T) {
	chance := rand.New(rand.NewSource(21))
	for _, selves := range rings(chance) {
		o := withFingers(chance, settled(selves...))
		for _, gone := range selves {
			failed, err := Fail(o, gone.No)
			mustHeal(t, "fail", failed, err, 8, without(selves, gone))
			left, err := Leave(o, gone.No)
			mustHeal(t, "leave", left, err, 8, without(selves, gone))
		}
	}
}

// TestHealsOfOneThatComes has one come just behind each server, and just ahead of it, where there is room.
func TestHealsOfOneThatComes(t *testing.T) {
	chance := rand.New(rand.NewSource(22))
	for _, selves := range rings(chance) {
		if len(selves) == 16 {
			continue
		}
		o := settled(selves...)
		free := slices.DeleteFunc(chance.Perm(16), func(no int) bool {
			return slices.ContainsFunc(selves, func(m api.Member) bool { return m.No == no })
		})
		ids := []api.Id{{}, {16: 1}, last()}
		for _, m := range selves {
			before, behind := m.Id, m.Id
			before[31]--
			behind[31]++
			ids = append(ids, before, behind)
		}
		for _, id := range ids {
			if slices.ContainsFunc(selves, func(m api.Member) bool { return m.Id == id }) {
				continue
			}
			for _, no := range []int{slices.Min(free), slices.Max(free), free[0]} {
				comer := api.Member{No: no, Id: id}
				succ := comer
				if len(selves) > 0 {
					succ = owner(selves, id)
				}
				come, err := Join(o, comer, succ.No)
				mustHeal(t, "join", come, err, 8, append(slices.Clone(selves), comer))
			}
		}
	}
}

// TestHealsOfThreeThatFail has each 1, 2 and 3 of up to 7 servers fail at once, and of more those that stand side by side, and some by chance.
func TestHealsOfThreeThatFail(t *testing.T) {
	chance := rand.New(rand.NewSource(23))
	for _, selves := range rings(chance) {
		o := withFingers(chance, settled(selves...))
		round := selves
		if len(selves) > 0 {
			round = append(others(selves, selves[0]), selves[0])
		}
		fail := func(places ...int) {
			var gone []api.Member
			for _, place := range places {
				if m := round[place%len(round)]; !slices.Contains(gone, m) {
					gone = append(gone, m)
				}
			}
			if len(gone) == len(round) {
				return
			}
			failed, err := o, api.OK
			for _, m := range gone {
				failed, err = Fail(failed, m.No)
			}
			mustHeal(t, "fail of some", failed, err, 16, without(selves, gone...))
		}
		for a := range round {
			if len(round) > 7 {
				fail(a, a+1)
				fail(a, a+1, a+2)
				fail(a, a+1, a+3)
				fail(a, chance.Intn(16), chance.Intn(16))
				continue
			}
			for b := range a + 1 {
				for c := range b + 1 {
					fail(a, b, c)
				}
			}
		}
	}
}

// TestRuns goes on from answer to answer, from nothing on: what may be stays such, and what is refused is answered as nothing.
func TestRuns(t *testing.T) {
	chance := rand.New(rand.NewSource(24))
	refused, most := 0, 0
	for range 500 {
		var o api.Overlay
		for range 60 {
			call, got, err, want, wantErr := chanceStep(chance, o)
			if err != wantErr || !same(got, want) || err != api.OK && !isZero(got) {
				t.Fatalf("%s of %+v: %+v, %d, want %+v, %d", call, o, got, err, want, wantErr)
			}
			if err != api.OK {
				refused++
				continue
			}
			if !Right(got) || !wantRight(got) {
				t.Fatalf("%s of %+v: may not be: %+v", call, o, got)
			}
			o = got
			most = max(most, len(o.Nodes))
		}
	}
	if refused < 5000 || most < 8 {
		t.Errorf("%d calls were refused, and %d servers lived at most", refused, most)
	}
}

// TestAllComeAndAllGo has servers come one by one, and go one by one, with 8 rounds between.
func TestAllComeAndAllGo(t *testing.T) {
	chance := rand.New(rand.NewSource(25))
	var o api.Overlay
	var selves []api.Member
	for _, m := range chanceSelves(chance, 16) {
		succ := m
		if len(selves) > 0 {
			succ = owner(selves, m.Id)
		}
		selves = append(selves, m)
		come, err := Join(o, m, succ.No)
		mustHeal(t, "join", come, err, 8, selves)
		o = rounds(t, come, 8)
	}
	for i, m := range selves {
		gone, err := Fail(o, m.No)
		if i%2 == 0 {
			gone, err = Leave(o, m.No)
		}
		mustHeal(t, "go", gone, err, 8, selves[i+1:])
		o = rounds(t, gone, 8)
	}
	if !isZero(o) {
		t.Errorf("at last %+v", o)
	}
}

// TestExampleOfTwo is the chapter's: of two one fails, and 8 rounds later the other one is alone.
func TestExampleOfTwo(t *testing.T) {
	o := settled(at(3, 30), at(5, 50))
	for i, no := range []int{3, 5} {
		failed, err := Fail(o, no)
		if got := rounds(t, failed, 8); err != api.OK || !same(got, over(lone(o.Nodes[1-i].Self))) {
			t.Errorf("behind fail of %d: %+v, %d", no, got, err)
		}
	}
}
