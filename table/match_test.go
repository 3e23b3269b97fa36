package table

import (
	"math/big"
	"math/rand"
	"slices"
	"testing"

	"posthouse/api"
)

func number(a api.Id) *big.Int { return new(big.Int).SetBytes(a[:]) }

// shared is how many bits two identifiers have in common: all but those of what they differ by.
func shared(a, b api.Id) int { return 256 - new(big.Int).Xor(number(a), number(b)).BitLen() }

func flipped(a api.Id, bits ...int) api.Id {
	for _, k := range bits {
		a[k/8] ^= 128 >> (k % 8)
	}
	return a
}

// flippedFrom has all bits from one on turned.
func flippedFrom(a api.Id, k int) api.Id {
	for ; k < 256; k++ {
		a = flipped(a, k)
	}
	return a
}

func mixedId(chance *rand.Rand) api.Id {
	var a api.Id
	for i := range a {
		a[i] = byte(chance.Intn(256))
	}
	return a
}

// tableOf has, of each identifier, triggers of each of some targets.
func tableOf(t *testing.T, ids []api.Id, targets ...api.Entry) []api.Trigger {
	t.Helper()
	var table []api.Trigger
	for _, a := range ids {
		for _, target := range targets {
			var e api.Errno
			if table, e = Put(table, trig(a, target, 5)); e != api.OK {
				t.Fatal(e)
			}
		}
	}
	return table
}

// matched checks which identifier's triggers are matched.
func matched(t *testing.T, what string, table []api.Trigger, id, want api.Id) {
	t.Helper()
	var of []api.Trigger
	for _, x := range table {
		if x.Id == want {
			of = append(of, x)
		}
	}
	if got, e := Match(table, id); e != api.OK || len(of) == 0 || !slices.Equal(got, of) {
		t.Errorf("%s: %s, %d of %x, want %x", what, shown(got), e, id, want)
	}
}

func notMatched(t *testing.T, what string, table []api.Trigger, id api.Id) {
	t.Helper()
	if got, e := Match(table, id); e != api.ErrNone || len(got) > 0 {
		t.Errorf("%s: %s, %d of %x", what, shown(got), e, id)
	}
}

func TestMatchOfTheExample(t *testing.T) {
	id := filled(85)
	a, b := flipped(id, 200), flipped(id, 130)
	matched(t, "200 bits and 130", tableOf(t, []api.Id{a, b}, toHost(1), toHost(2)), id, a)
	matched(t, "130 bits alone", tableOf(t, []api.Id{b}, toHost(1), toHost(2)), id, b)
}

func TestMatchHasAtLeast128Bits(t *testing.T) {
	for _, id := range []api.Id{{}, filled(255), filled(85), place(7)} {
		for k := range 256 {
			// What is behind the first unlike bit counts no more, like or unlike.
			for _, a := range []api.Id{flipped(id, k), flippedFrom(id, k)} {
				table := tableOf(t, []api.Id{a}, toId(place(3)), toHost(3))
				if k < 128 {
					notMatched(t, "below 128 bits", table, id)
				} else {
					matched(t, "128 bits and more", table, id, a)
				}
			}
		}
		matched(t, "all bits", tableOf(t, []api.Id{id}, toHost(0)), id, id)
	}
}

func TestMatchOfTheMostBits(t *testing.T) {
	targets := []api.Entry{toId(place(3)), toHost(3), toHost(15)}
	for _, id := range []api.Id{{}, filled(255), filled(85), filled(170)} {
		for k := 1; k < 255; k++ {
			longer, shorter := flippedFrom(id, k+1), flipped(id, k)
			table := tableOf(t, []api.Id{longer, shorter, flipped(id, k-1)}, targets...)
			if k < 127 {
				notMatched(t, "none of 128 bits", table, id)
			} else {
				matched(t, "one bit more", table, id, longer)
			}
		}
		last := flipped(id, 255)
		matched(t, "all bits ahead of all but one", tableOf(t, []api.Id{id, last}, targets...), id, id)
		matched(t, "all bits but one", tableOf(t, []api.Id{last, flipped(id, 254)}, targets...), id, last)
	}
}

func TestMatchOfSeveralIsTheLeast(t *testing.T) {
	for _, id := range []api.Id{{}, filled(255), filled(85), filled(170)} {
		for k := 128; k < 255; k++ {
			// Both have just k bits in common with it; only the second one is unlike behind that, too.
			one, two := flipped(id, k), flipped(id, k, 255)
			least := one
			if number(two).Cmp(number(one)) < 0 {
				least = two
			}
			targets := []api.Entry{toId(place(3)), toHost(1)}
			matched(t, "two", tableOf(t, []api.Id{one, two}, targets...), id, least)
			matched(t, "two, and one of fewer bits", tableOf(t, []api.Id{one, two, flipped(id, 127), flipped(id, k-1)}, targets...), id, least)
			matched(t, "two, and one of more bits", tableOf(t, []api.Id{one, two, flipped(id, k+1)}, targets...), id, flipped(id, k+1))
		}
	}
}

func TestMatchIsOfTheLikestAndNotOfTheNearest(t *testing.T) {
	// The number just below is nearer by far, but has no bit in common with it behind the place where they part.
	id := api.Id{15: 1}
	below := flippedFrom(api.Id{}, 128)
	likest := flipped(id, 128)
	matched(t, "the likest one", tableOf(t, []api.Id{below, likest}, toHost(1)), id, likest)
	notMatched(t, "the nearest one", tableOf(t, []api.Id{below}, toHost(1)), id)
	// Round the ring's end nothing is near.
	notMatched(t, "round the ring", tableOf(t, []api.Id{filled(255)}, toHost(1)), api.Id{})
}

func TestMatchHasAllTriggersOfTheLikestInOrder(t *testing.T) {
	id := filled(85)
	for many := 1; many <= 23; many++ {
		table := tableOf(t, []api.Id{flipped(id, 200)}, rightTargets()[:many]...)
		if got, e := Match(table, id); e != api.OK || !slices.Equal(got, table) {
			t.Errorf("%d: %s, %d", many, shown(got), e)
		}
		for _, other := range []api.Id{flipped(id, 199), flipped(id, 150), flipped(id, 127), flipped(id, 0)} {
			more, e := Put(table, trig(other, toHost(2), 5))
			if e != api.OK {
				t.Fatal(e)
			}
			if got, e := Match(more, id); e != api.OK || !slices.Equal(got, table) {
				t.Errorf("%d beside %x: %s, %d", many, other, shown(got), e)
			}
		}
	}
}

func TestMatchOfNone(t *testing.T) {
	for _, id := range []api.Id{{}, filled(255), place(3)} {
		notMatched(t, "nil", nil, id)
		notMatched(t, "no trigger", []api.Trigger{}, id)
	}
	for n := range 33 {
		notMatched(t, "others alone", sized(n), filled(255))
	}
}

func TestMatchDoesNotAskForTimesNorTargets(t *testing.T) {
	id := filled(85)
	for _, until := range rightTimes() {
		table := []api.Trigger{trig(id, toId(id), until), trig(id, toHost(7), maxTick-until)}
		if got, e := Match(table, id); e != api.OK || !slices.Equal(got, table) {
			t.Errorf("until %d: %s, %d", until, shown(got), e)
		}
	}
	notMatched(t, "as a target alone", tableOf(t, []api.Id{place(1)}, toId(id)), id)
}

// wantMatch goes through all identifiers of a table, and keeps the likest one.
func wantMatch(table []api.Trigger, id api.Id) []api.Trigger {
	bits, likest := 127, api.Id{}
	for _, x := range table {
		n := shared(x.Id, id)
		if n > bits || n == bits && n >= 128 && number(x.Id).Cmp(number(likest)) < 0 {
			bits, likest = n, x.Id
		}
	}
	var want []api.Trigger
	for _, x := range table {
		if bits >= 128 && x.Id == likest {
			want = append(want, x)
		}
	}
	return want
}

func TestMatchByChance(t *testing.T) {
	chance := rand.New(rand.NewSource(12))
	seen := map[bool]int{}
	for range 4000 {
		id := mixedId(chance)
		var table []api.Trigger
		for range chance.Intn(33) {
			a := flipped(id, 120+chance.Intn(24), 120+chance.Intn(136), 250+chance.Intn(6))
			if after, e := Put(table, trig(a, toHost(chance.Intn(3)), chance.Intn(9))); e == api.OK {
				table = after
			}
		}
		want := wantMatch(table, id)
		seen[len(want) > 0]++
		got, e := Match(table, id)
		if !slices.Equal(got, want) || len(want) > 0 && e != api.OK || len(want) == 0 && e != api.ErrNone {
			t.Fatalf("%s, %d of %x, want %s", shown(got), e, id, shown(want))
		}
	}
	if seen[true] < 500 || seen[false] < 100 {
		t.Errorf("%d matched, %d not", seen[true], seen[false])
	}
}
