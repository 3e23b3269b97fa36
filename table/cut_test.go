package table

import (
	"math/big"
	"math/rand"
	"slices"
	"testing"

	"posthouse/api"
)

// ringWay is the way from one to another, as a number.
func ringWay(a, b api.Id) *big.Int {
	size := new(big.Int).Lsh(big.NewInt(1), 256)
	way := new(big.Int).Sub(number(b), number(a))
	return way.Mod(way, size)
}

// isOn is whether x is on the way from a to b, which is of it.
func isOn(x, a, b api.Id) bool {
	toX := ringWay(a, x)
	return a == b || toX.Sign() != 0 && toX.Cmp(ringWay(a, b)) <= 0
}

func checkCut(t *testing.T, table []api.Trigger, from, to api.Id) {
	t.Helper()
	var on, off []api.Trigger
	for _, x := range table {
		if isOn(x.Id, from, to) {
			on = append(on, x)
		} else {
			off = append(off, x)
		}
	}
	gotOn, gotOff, e := Cut(table, from, to)
	if e != api.OK || !slices.Equal(gotOn, on) || !slices.Equal(gotOff, off) {
		t.Errorf("from %x to %x: %s and %s, %d, want %s and %s", from, to, shown(gotOn), shown(gotOff), e, shown(on), shown(off))
	}
}

func TestCutBetweenAll(t *testing.T) {
	ids := []api.Id{{}, {31: 1}, {31: 2}, {30: 1}, place(1), place(9), place(128), flipped(filled(255), 255), filled(255)}
	for _, table := range [][]api.Trigger{nil, {}, tableOf(t, ids, toHost(1)), tableOf(t, ids, toId(place(5)), toHost(0), toHost(15)), tableOf(t, ids[1:4], toHost(2)), tableOf(t, ids[:1], toHost(2))} {
		for _, from := range ids {
			for _, to := range ids {
				checkCut(t, table, from, to)
			}
		}
	}
	for n := range 33 {
		for _, x := range sized(n) {
			for _, y := range sized(n) {
				checkCut(t, sized(n), x.Id, y.Id)
			}
		}
	}
}

func TestCutAtItsEnds(t *testing.T) {
	one, two, three := place(10), place(20), place(30)
	of := func(ids ...api.Id) []api.Trigger { return tableOf(t, ids, toId(place(3)), toHost(4)) }
	table := of(one, two, three)
	for _, c := range []struct {
		what     string
		from, to api.Id
		on, off  []api.Trigger
	}{
		{"the end is on it, the beginning is not", one, two, of(two), of(one, three)},
		{"round the ring", two, one, of(one, three), of(two)},
		{"from the last one round the ring", three, one, of(one), of(two, three)},
		{"to itself is all", two, two, table, nil},
		{"to itself, of none that is there", place(25), place(25), table, nil},
		{"round the ring to between", place(25), place(15), of(one, three), of(two)},
		{"between two, none", place(21), place(29), nil, table},
		{"between two the other way, all", place(29), place(21), table, nil},
		{"just ahead of one", flipped(two, 255), two, of(two), of(one, three)},
		{"just behind one", two, flipped(two, 252, 253, 254, 255), nil, table},
		{"just up to one from behind it", two, flipped(two, 255), of(one, three), of(two)},
	} {
		on, off, e := Cut(table, c.from, c.to)
		if e != api.OK || !slices.Equal(on, c.on) || !slices.Equal(off, c.off) {
			t.Errorf("%s: %s and %s, %d", c.what, shown(on), shown(off), e)
		}
	}
}

func TestCutGoesByIdentifiersAndNotByTargets(t *testing.T) {
	table := []api.Trigger{trig(place(10), toId(place(90)), 3), trig(place(90), toId(place(10)), 3)}
	on, off, e := Cut(table, place(5), place(15))
	if e != api.OK || !slices.Equal(on, table[:1]) || !slices.Equal(off, table[1:]) {
		t.Errorf("%s and %s, %d", shown(on), shown(off), e)
	}
}

// together puts one by one into one table what two lists have.
func together(t *testing.T, one, two []api.Trigger) []api.Trigger {
	t.Helper()
	for _, x := range two {
		var e api.Errno
		if one, e = Put(one, x); e != api.OK {
			t.Fatalf("not put together: %d", e)
		}
	}
	return one
}

func TestThePartsOfACutPutTogetherAreTheTable(t *testing.T) {
	chance := rand.New(rand.NewSource(13))
	parted := 0
	for _, table := range rightTables() {
		for range 40 {
			from, to := mixedId(chance), mixedId(chance)
			if len(table) > 0 && chance.Intn(2) == 0 {
				from = table[chance.Intn(len(table))].Id
			}
			if len(table) > 0 && chance.Intn(2) == 0 {
				to = table[chance.Intn(len(table))].Id
			}
			checkCut(t, table, from, to)
			on, off, e := Cut(table, from, to)
			if e != api.OK || !Right(on) || !Right(off) || len(on)+len(off) != len(table) {
				t.Fatalf("%s and %s, %d", shown(on), shown(off), e)
			}
			if !slices.Equal(together(t, on, off), table) || !slices.Equal(together(t, off, on), table) {
				t.Errorf("%s and %s are not %s", shown(on), shown(off), shown(table))
			}
			if len(on) > 0 && len(off) > 0 {
				parted++
			}
		}
	}
	if parted < 300 {
		t.Errorf("only %d were parted", parted)
	}
}
