package lookup

import (
	"math/rand"
	"slices"
	"testing"

	"posthouse/api"
	"posthouse/chord"
)

// mustFind asks that in an overlay every server finds every owner, always nearer to it, and asks none twice.
func mustFind(t *testing.T, chance *rand.Rand, o api.Overlay) {
	t.Helper()
	for _, id := range idsOf(chance, o) {
		l := round(o, id)
		for _, from := range l {
			owner := l[0]
			nos, m, err := mustWalk(t, o, from.No, id, 16)
			if m != owner || err != api.OK || nos[0] != from.No || nos[len(nos)-1] != owner.No {
				t.Fatalf("%x from %v in %+v: %v, %v, %d", id, from, o, nos, m, err)
			}
			if len(nos) > 1 {
				mustComeNearer(t, o, id, nos[:len(nos)-1])
			}
			if keeps, err := Keeps(o, id, 1); err != api.OK || keeps[0] != m {
				t.Fatalf("%x: kept by %v, %d, found at %v", id, keeps, err, m)
			}
		}
	}
}

// mustComeNearer asks that of all that were asked each one is nearer to an identifier than the one ahead, so that none is asked twice.
func mustComeNearer(t *testing.T, o api.Overlay, id api.Id, asked []int) {
	t.Helper()
	alive := selvesOf(o)
	for i := 1; i < len(asked); i++ {
		if way(alive[asked[i]].Id, id).Cmp(way(alive[asked[i-1]].Id, id)) >= 0 || slices.Contains(asked[:i], asked[i]) {
			t.Fatalf("to %x in %+v: %v", id, o, asked)
		}
	}
}

// TestAllIsFoundInWhatIsStable is of stable overlays of all sizes, with fingers to anything.
func TestAllIsFoundInWhatIsStable(t *testing.T) {
	chance := rand.New(rand.NewSource(10))
	for many := 1; many <= 16; many++ {
		o := settled(t, chanceSelves(chance, many)...)
		mustFind(t, chance, o)
		mustFind(t, chance, withFingers(chance, o))
	}
	for _, selves := range [][]api.Member{five(), sixteen()} {
		mustFind(t, chance, settled(t, selves...))
	}
}

// TestAllIsFoundAtOnceByFingersToAll has each server have a finger to each other one: then just the one ahead of the owner is asked.
func TestAllIsFoundAtOnceByFingersToAll(t *testing.T) {
	o := settled(t, sixteen()...)
	for _, m := range sixteen() {
		for _, to := range sixteen() {
			if to != m {
				o = must(t)(chord.Point(o, m.No, to.No))
			}
		}
	}
	l := sixteen()
	for i, owner := range l {
		ahead := l[(i+15)%16]
		for _, from := range l {
			nos, m, err := Walk(o, from.No, owner.Id, 1)
			want := []int{from.No, ahead.No, owner.No}
			if from == owner || from == ahead {
				want = slices.Compact([]int{from.No, owner.No})
			}
			if !slices.Equal(nos, want) || m != owner || err != api.OK {
				t.Errorf("%v from %v: %v, %v, %d, want %v", owner, from, nos, m, err, want)
			}
		}
	}
	mustFind(t, rand.New(rand.NewSource(11)), o)
}

// TestWithoutFingersFourAreGoneBy has each server know four that follow it: each that is asked is the fourth one farther, or the one ahead of the owner.
func TestWithoutFingersFourAreGoneBy(t *testing.T) {
	o := settled(t, sixteen()...)
	l := sixteen()
	for far := range 16 {
		nos, m, err := Walk(o, l[0].No, l[far].Id, 3)
		want := []int{l[0].No}
		for place := 0; place < far-1; want = append(want, l[place].No) {
			place = min(place+4, far-1)
		}
		if far > 0 {
			want = append(want, l[far].No)
		}
		if far > 13 {
			if !isNothing(nos, m) || err != api.ErrHops {
				t.Errorf("%d farther: %v, %v, %d", far, nos, m, err)
			}
		} else if !slices.Equal(nos, want) || m != l[far] || err != api.OK {
			t.Errorf("%d farther: %v, %v, %d, want %v", far, nos, m, err, want)
		}
	}
}

// TestAllIsFoundBehindOneThatComesOrGoes is of stable overlays that one server comes to, leaves or fails, 8 rounds later.
func TestAllIsFoundBehindOneThatComesOrGoes(t *testing.T) {
	chance := rand.New(rand.NewSource(12))
	for many := 1; many <= 16; many++ {
		selves := chanceSelves(chance, many)
		comer, stay := selves[0], selves[1:]
		o := withFingers(chance, settled(t, selves...))
		changed := []api.Overlay{must(t)(chord.Fail(o, comer.No)), must(t)(chord.Leave(o, comer.No))}
		succ := comer
		less := settled(t, stay...)
		if l := round(less, comer.Id); len(l) > 0 {
			succ = l[0]
		}
		changed = append(changed, must(t)(chord.Join(less, comer, succ.No)))
		for _, next := range changed {
			healed := later(t, next)
			if !chord.Stable(healed) {
				t.Fatalf("8 rounds behind %+v comes %+v", next, healed)
			}
			mustFind(t, chance, healed)
		}
	}
}
