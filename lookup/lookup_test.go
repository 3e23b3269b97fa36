package lookup

import (
	"math/rand"
	"slices"
	"testing"

	"posthouse/api"
	"posthouse/chord"
)

// isNothing tells whether a walk's results are zero, as they are beside an error.
func isNothing(nos []int, m api.Member) bool { return len(nos) == 0 && m == api.Member{} }

func TestWalkByHand(t *testing.T) {
	three, five, nine, gone := at(3, 30), at(5, 50), at(9, 90), at(4, 40)
	pointed := func(n api.Node, fingers ...api.Member) api.Node {
		n.Fingers = fingers
		return n
	}
	for _, c := range []struct {
		what  string
		o     api.Overlay
		from  int
		id    byte
		nos   []int
		owner api.Member
	}{
		{"it is its own", over(knows(three, five, five), knows(five, three, three)), 3, 30, []int{3}, three},
		{"it is its own, round the ring's end", over(knows(three, five, five), knows(five, three, three)), 3, 51, []int{3}, three},
		{"it is that of the first that follows", over(knows(three, five, five), knows(five, three, three)), 3, 31, []int{3, 5}, five},
		{"it is just that one's identifier", over(knows(three, five, five), knows(five, three, three)), 3, 50, []int{3, 5}, five},
		{"the next one knows", over(knows(three, nobody(), five), knows(five, three, nine), knows(nine, five, three)), 3, 51, []int{3, 5, 9}, nine},
		{"the next one says that it is the first one's", over(knows(three, nobody(), five), knows(five, three, three)), 3, 51, []int{3, 5, 3}, three},
		{"its own identifier, but it knows none ahead", over(knows(three, nobody(), five), knows(five, three, three)), 3, 30, []int{3, 5, 3}, three},
		{"the next one says that it is its own", over(knows(three, nobody(), nine), knows(nine, at(11, 95), three), knows(at(11, 95), nine, three)), 3, 99, []int{3, 9}, nine},
		{"the next one knows no other one", over(knows(three, nobody(), five), knows(five, three, nine), lone(nine)), 3, 91, []int{3, 5, 9}, nine},
		{"a finger leads farther", over(pointed(knows(three, nobody(), five), nine), knows(five, three, nine), knows(nine, five, three)), 3, 91, []int{3, 9, 3}, three},
		{"a finger leads too far", over(pointed(knows(three, nobody(), five), nine), knows(five, three, nine), knows(nine, five, three)), 3, 60, []int{3, 5, 9}, nine},
		{"one behind the first that follows leads farther", over(knows(three, nobody(), five, nine), knows(five, three, nine), knows(nine, five, three)), 3, 100, []int{3, 9, 3}, three},
		{"it knows none", over(lone(three), knows(five, three, three)), 3, 50, []int{3}, three},
		{"the one ahead does not live", over(knows(three, gone, five), knows(five, three, three)), 3, 20, []int{3, 5, 3}, three},
		{"the first that follows does not live", over(knows(three, five, gone, five), knows(five, three, three)), 3, 35, []int{3, 5}, five},
		{"none that follows lives", over(knows(three, gone, gone, at(7, 70)), knows(five, three, three)), 3, 50, []int{3}, three},
		{"the finger does not live", over(pointed(knows(three, nobody(), five), at(8, 80)), knows(five, three, nine), knows(nine, five, three)), 3, 85, []int{3, 5, 9}, nine},
		{"all fingers but one do not live", over(pointed(knows(three, nobody(), five), at(8, 80), nine, at(10, 99)), knows(five, three, nine), knows(nine, five, three)), 3, 100, []int{3, 9, 3}, three},
		{"the next one drops, too", over(knows(three, nobody(), five), knows(five, gone, at(6, 60), nine), knows(nine, five, three)), 3, 55, []int{3, 5, 9}, nine},
	} {
		if !chord.Right(c.o) {
			t.Fatalf("%s: may not be", c.what)
		}
		nos, owner, err := Walk(c.o, c.from, api.Id{31: c.id}, 16)
		if !slices.Equal(nos, c.nos) || owner != c.owner || err != api.OK {
			t.Errorf("%s: %v, %v, %d, want %v, %v", c.what, nos, owner, err, c.nos, c.owner)
		}
		mustWalk(t, c.o, c.from, api.Id{31: c.id}, 16)
	}
}

// TestWalkOfOneAlone is the chapter's example: any identifier is its own, with no hops.
func TestWalkOfOneAlone(t *testing.T) {
	chance := rand.New(rand.NewSource(1))
	for no := range 16 {
		self := api.Member{No: no, Id: chanceId(chance)}
		for _, o := range []api.Overlay{over(lone(self)), over(knows(self, at(15-no, 7), at(15-no, 7)))} {
			for _, id := range idsOf(chance, o) {
				for _, hops := range []int{0, 1, 16} {
					nos, owner, err := Walk(o, no, id, hops)
					if !slices.Equal(nos, []int{no}) || owner != self || err != api.OK {
						t.Errorf("to %x of %v alone: %v, %v, %d", id, self, nos, owner, err)
					}
				}
			}
		}
	}
}

// TestWalkRoundTheRing has each of 16 know just the next one, so that all are asked: just so many hops are enough.
func TestWalkRoundTheRing(t *testing.T) {
	selves := sixteen()
	o := thin(selves...)
	for start, self := range selves {
		for far := 1; far <= 16; far++ {
			owner := selves[(start+far)%16]
			var nos []int
			for i := range far + 1 {
				nos = append(nos, selves[(start+i)%16].No)
			}
			for hops := range 17 {
				got, m, err := Walk(o, self.No, owner.Id, hops)
				if hops < far-1 {
					if !isNothing(got, m) || err != api.ErrHops {
						t.Errorf("%d farther with %d hops: %v, %v, %d", far, hops, got, m, err)
					}
				} else if !slices.Equal(got, nos) || m != owner || err != api.OK {
					t.Errorf("%d farther with %d hops: %v, %v, %d, want %v", far, hops, got, m, err, nos)
				}
			}
		}
	}
}

func TestWalkOfWrongHops(t *testing.T) {
	for _, o := range []api.Overlay{{}, over(lone(at(3, 30))), settled(t, five()...), thin(sixteen()...)} {
		for _, hops := range append(wrongNumbers(), 18, 100) {
			if hops == 16 {
				continue
			}
			for _, from := range []int{-1, 2, 3, 7, 16} {
				if nos, m, err := Walk(o, from, api.Id{31: 30}, hops); !isNothing(nos, m) || err != api.ErrArg {
					t.Errorf("%d hops from %d: %v, %v, %d", hops, from, nos, m, err)
				}
			}
		}
	}
}

func TestWalkFromNone(t *testing.T) {
	o := settled(t, five()...)
	// One that is known does not live by that.
	o.Nodes[0].Fingers = row(at(7, 70))
	o.Nodes[1].Succs = append(o.Nodes[1].Succs[:3:3], at(7, 70))
	for _, from := range append(wrongNumbers(), 0, 1, 3, 4, 7, 8, 10, 11, 13, 14, 15) {
		for _, hops := range []int{0, 1, 16} {
			if nos, m, err := Walk(o, from, api.Id{31: 70}, hops); !isNothing(nos, m) || err != api.ErrDown {
				t.Errorf("from %d: %v, %v, %d", from, nos, m, err)
			}
			if nos, m, err := Walk(api.Overlay{}, from, api.Id{}, hops); !isNothing(nos, m) || err != api.ErrDown {
				t.Errorf("from %d of none: %v, %v, %d", from, nos, m, err)
			}
		}
	}
}

func TestWalkInWhatMayNotBe(t *testing.T) {
	for _, o := range wrongOverlays(t) {
		for _, from := range []int{-1, 0, 3, 5, 7, 16} {
			for _, hops := range []int{-1, 0, 16, 17} {
				if nos, m, err := Walk(o, from, api.Id{31: 30}, hops); !isNothing(nos, m) || err != api.ErrArg {
					t.Errorf("from %d in %+v: %v, %v, %d", from, o, nos, m, err)
				}
			}
		}
	}
}

// TestWalkByChance is of overlays in which much is wrong that is known, from each number, with each count of hops.
func TestWalkByChance(t *testing.T) {
	chance := rand.New(rand.NewSource(2))
	errs := map[api.Errno]int{}
	lengths := map[int]int{}
	for range 400 {
		o := chanceOverlay(chance)
		if !chord.Right(o) {
			t.Fatalf("may not be: %+v", o)
		}
		ids := idsOf(chance, o)
		for range 100 {
			hops := chance.Intn(19) - 1
			if chance.Intn(2) > 0 {
				hops = chance.Intn(4)
			}
			nos, _, err := mustWalk(t, o, chance.Intn(18)-1, ids[chance.Intn(len(ids))], hops)
			errs[err]++
			lengths[len(nos)]++
		}
	}
	if errs[api.OK] < 5000 || errs[api.ErrHops] < 500 || errs[api.ErrDown] < 500 || errs[api.ErrArg] < 500 || lengths[6] < 100 {
		t.Errorf("errors %v, lengths %v", errs, lengths)
	}
	if len(errs) > 4 {
		t.Errorf("other errors: %v", errs)
	}
}

// TestWalkEndsWhateverIsAnswered has answers come by hand: no node answers with itself as no owner, nor leads back.
func TestWalkEndsWhateverIsAnswered(t *testing.T) {
	l := sixteen()
	next := func(m api.Member) api.Member { return l[(slices.Index(l, m)+1)%16] }
	stopsAt := func(stop api.Member, isOwner bool) func(api.Member) answer {
		return func(m api.Member) answer {
			if m == stop {
				return answer{with: m, isOwner: isOwner}
			}
			return answer{with: next(m)}
		}
	}
	onAndOn := func(m api.Member) answer { return answer{with: next(m)} }
	for hops := range 17 {
		for far := range 16 {
			nos, m, err := walk(l[0], hops, stopsAt(l[far], false))
			want := api.ErrLost
			if far > hops {
				want = api.ErrHops
			}
			if !isNothing(nos, m) || err != want {
				t.Errorf("lost %d farther with %d hops: %v, %v, %d", far, hops, nos, m, err)
			}
			nos, m, err = walk(l[0], hops, stopsAt(l[far], true))
			if far > hops {
				if !isNothing(nos, m) || err != api.ErrHops {
					t.Errorf("found %d farther with %d hops: %v, %v, %d", far, hops, nos, m, err)
				}
			} else if len(nos) != far+1 || nos[far] != l[far].No || m != l[far] || err != api.OK {
				t.Errorf("found %d farther with %d hops: %v, %v, %d", far, hops, nos, m, err)
			}
		}
		if nos, m, err := walk(l[0], hops, onAndOn); !isNothing(nos, m) || err != api.ErrHops {
			t.Errorf("on and on with %d hops: %v, %v, %d", hops, nos, m, err)
		}
	}
}

func TestKeepsByHand(t *testing.T) {
	o := settled(t, five()...)
	two, nine, five, twelve, six := at(2, 20), at(9, 30), at(5, 50), at(12, 60), at(6, 90)
	for _, c := range []struct {
		id   byte
		many int
		want []api.Member
	}{
		{0, 1, row(two)},
		{20, 1, row(two)},
		{21, 1, row(nine)},
		{50, 2, row(five, twelve)},
		{51, 3, row(twelve, six, two)},
		{90, 4, row(six, two, nine, five)},
		{91, 4, row(two, nine, five, twelve)},
		{255, 2, row(two, nine)},
	} {
		if got, err := Keeps(o, api.Id{31: c.id}, c.many); !slices.Equal(got, c.want) || err != api.OK {
			t.Errorf("%d of %d: %v, %d, want %v", c.many, c.id, got, err, c.want)
		}
	}
}

// TestKeepsOfAllSizes asks whatever the servers know: just which of them live tells who keeps.
func TestKeepsOfAllSizes(t *testing.T) {
	chance := rand.New(rand.NewSource(3))
	for live := 1; live <= 16; live++ {
		selves := chanceSelves(chance, live)
		for _, o := range []api.Overlay{thin(selves...), withFingers(chance, thin(selves...)), settled(t, selves...)} {
			for _, id := range idsOf(chance, o) {
				for many := 1; many <= 4; many++ {
					want := round(o, id)[:min(many, live)]
					if got, err := Keeps(o, id, many); !slices.Equal(got, want) || err != api.OK {
						t.Fatalf("%d of %x in %+v: %v, %d, want %v", many, id, o, got, err, want)
					}
				}
			}
		}
	}
	for range 300 {
		o := chanceOverlay(chance)
		if len(o.Nodes) == 0 {
			continue
		}
		id, many := chanceId(chance), 1+chance.Intn(4)
		want := round(o, id)[:min(many, len(o.Nodes))]
		if got, err := Keeps(o, id, many); !slices.Equal(got, want) || err != api.OK {
			t.Fatalf("%d of %x in %+v: %v, %d, want %v", many, id, o, got, err, want)
		}
	}
}

func TestKeepsOfNone(t *testing.T) {
	for _, o := range []api.Overlay{{}, over()} {
		for many := 1; many <= 4; many++ {
			if l, err := Keeps(o, api.Id{}, many); len(l) > 0 || err != api.ErrNone {
				t.Errorf("%d of none: %v, %d", many, l, err)
			}
		}
	}
}

func TestKeepsOfWrongCounts(t *testing.T) {
	for _, o := range []api.Overlay{{}, over(lone(at(3, 30))), settled(t, five()...), thin(sixteen()...)} {
		for _, many := range append(wrongNumbers(), 0, 5, 6) {
			if l, err := Keeps(o, api.Id{31: 30}, many); len(l) > 0 || err != api.ErrArg {
				t.Errorf("%d: %v, %d", many, l, err)
			}
		}
	}
}

func TestKeepsInWhatMayNotBe(t *testing.T) {
	for _, o := range wrongOverlays(t) {
		for many := -1; many <= 6; many++ {
			if l, err := Keeps(o, api.Id{31: 30}, many); len(l) > 0 || err != api.ErrArg {
				t.Errorf("%d in %+v: %v, %d", many, o, l, err)
			}
		}
	}
}

// TestAnswersAreNewMemory spoils all that was answered: neither the overlay nor another answer has it. Nor does a call change what it was handed.
func TestAnswersAreNewMemory(t *testing.T) {
	chance := rand.New(rand.NewSource(4))
	overlays := []api.Overlay{withFingers(chance, settled(t, five()...)), thin(sixteen()...)}
	for range 100 {
		overlays = append(overlays, chanceOverlay(chance))
	}
	for _, o := range overlays {
		was := clone(o)
		for _, n := range was.Nodes {
			id := chanceId(chance)
			nos, _, err := Walk(o, n.Self.No, id, 16)
			l, keepsErr := Keeps(o, id, 4)
			nosWere, lWas := slices.Clone(nos), slices.Clone(l)
			for i := range nos {
				nos[i] = -7
			}
			for i := range l {
				l[i] = nobody()
			}
			if err != api.OK || keepsErr != api.OK || !same(o, was) {
				t.Fatalf("%d, %d: %+v is %+v", err, keepsErr, was, o)
			}
			nos, _, _ = Walk(o, n.Self.No, id, 16)
			l, _ = Keeps(o, id, 4)
			if !slices.Equal(nos, nosWere) || !slices.Equal(l, lWas) {
				t.Errorf("again: %v, %v, want %v, %v", nos, l, nosWere, lWas)
			}
		}
	}
}

// TestNothingPanics is of overlays of which nothing is sure.
func TestNothingPanics(t *testing.T) {
	chance := rand.New(rand.NewSource(5))
	number := func() int {
		if chance.Intn(3) == 0 {
			return wrongNumbers()[chance.Intn(len(wrongNumbers()))]
		}
		return chance.Intn(18) - 1
	}
	members := func(most int) []api.Member {
		var l []api.Member
		for range chance.Intn(most + 1) {
			l = append(l, api.Member{No: number(), Id: chanceId(chance)})
		}
		return l
	}
	for range 5000 {
		var o api.Overlay
		for _, m := range members(20) {
			o.Nodes = append(o.Nodes, api.Node{Self: m, Pred: append(members(1), nobody())[0], Succs: members(6), Fingers: members(18)})
		}
		right := chord.Right(o)
		nos, m, err := Walk(o, number(), chanceId(chance), number())
		if err != api.OK && !isNothing(nos, m) || !right && err != api.ErrArg {
			t.Fatalf("walk in %+v: %v, %v, %d", o, nos, m, err)
		}
		l, err := Keeps(o, chanceId(chance), number())
		if err != api.OK && len(l) > 0 || !right && err != api.ErrArg {
			t.Fatalf("keeps in %+v: %v, %d", o, l, err)
		}
	}
}
