package table

import (
	"math/rand"
	"slices"
	"strings"
	"testing"

	"posthouse/api"
)

// things is what tells a trigger from another one.
type things struct {
	id     api.Id
	target api.Entry
}

// kept is triggers in no order: until when each lives.
type kept map[things]int

// key is a text that stands to others as a trigger's place in a table does.
func key(x things) string {
	return string(x.id[:]) + string([]byte{byte(x.target.Kind)}) + string(x.target.Id[:]) + string([]byte{byte(x.target.Host)})
}

// table is what is kept, in order.
func (k kept) table() []api.Trigger {
	var t []api.Trigger
	for x, until := range k {
		t = append(t, trig(x.id, x.target, until))
	}
	slices.SortFunc(t, func(a, b api.Trigger) int {
		return strings.Compare(key(things{a.Id, a.Target}), key(things{b.Id, b.Target}))
	})
	return t
}

// chanceThings is one of few, of which many are near one another.
func chanceThings(chance *rand.Rand) things {
	a := flipped(filled(85), 126+chance.Intn(4))
	switch chance.Intn(4) {
	case 0:
		return things{a, toId(flipped(filled(85), 254+chance.Intn(2)))}
	case 1:
		return things{place(byte(chance.Intn(3))), toId(place(byte(chance.Intn(3))))}
	case 2:
		return things{a, toHost(chance.Intn(4))}
	}
	return things{place(byte(chance.Intn(3))), toHost(chance.Intn(16))}
}

// step does one thing by chance to a table, and to what should be kept in it.
func step(t *testing.T, chance *rand.Rand, table []api.Trigger, k kept) []api.Trigger {
	t.Helper()
	x, until := chanceThings(chance), chance.Intn(40)
	_, isThere := k[x]
	var got []api.Trigger
	var e, want api.Errno
	switch chance.Intn(12) {
	case 0, 1:
		if got, e = Drop(table, x.id, x.target); !isThere {
			want = api.ErrNone
		}
		delete(k, x)
	case 2:
		now := chance.Intn(8)
		got, e = Expire(table, now)
		for x, until := range k {
			if until <= now {
				delete(k, x)
			}
		}
	case 3:
		from, to := chanceThings(chance).id, chanceThings(chance).id
		on, off, err := Cut(table, from, to)
		got, e = together(t, on, off), err
	default:
		if got, e = Put(table, trig(x.id, x.target, until)); !isThere && len(k) == 32 {
			want = api.ErrFull
		} else {
			k[x] = max(k[x], until)
		}
	}
	if e != want || e != api.OK && len(got) > 0 {
		t.Fatalf("%s, %d, want %d", shown(got), e, want)
	}
	if e != api.OK {
		return table
	}
	return got
}

func TestWhatMayBeStaysSuch(t *testing.T) {
	chance := rand.New(rand.NewSource(14))
	full := 0
	for range 60 {
		var table []api.Trigger
		k := kept{}
		for range 300 {
			table = step(t, chance, table, k)
			if !Right(table) || !slices.Equal(table, k.table()) {
				t.Fatalf("%s, want %s", shown(table), shown(k.table()))
			}
			if got, _ := Match(table, chanceThings(chance).id); !Right(got) {
				t.Fatalf("what is matched may not be: %s", shown(got))
			}
			if len(table) == 32 {
				full++
			}
		}
	}
	if full < 100 {
		t.Errorf("only %d tables were full", full)
	}
}

func TestWhatIsPutIsMatchedByItsOwnIdentifier(t *testing.T) {
	chance := rand.New(rand.NewSource(15))
	for range 200 {
		var table []api.Trigger
		for {
			x := chanceThings(chance)
			after, e := Put(table, trig(x.id, x.target, chance.Intn(9)))
			if e == api.ErrFull {
				break
			}
			table = after
			got, e := Match(table, x.id)
			isIt := func(y api.Trigger) bool { return y.Id == x.id && y.Target == x.target }
			if e != api.OK || !slices.ContainsFunc(got, isIt) {
				t.Fatalf("%s, %d of %x", shown(got), e, x.id)
			}
			if slices.ContainsFunc(got, func(y api.Trigger) bool { return y.Id != x.id }) {
				t.Fatalf("another identifier's, too: %s of %x", shown(got), x.id)
			}
		}
	}
	for _, x := range rightTriggers() {
		for _, n := range []int{0, 1, 17, 31} {
			table, _ := Put(sized(n), x)
			if got, e := Match(table, x.Id); e != api.OK || !slices.Equal(got, []api.Trigger{x}) {
				t.Errorf("%s, %d of %x", shown(got), e, x.Id)
			}
		}
	}
}

func TestWhatIsPutIsDroppedAgain(t *testing.T) {
	for _, x := range rightTriggers() {
		for n := range 32 {
			table, e := Put(sized(n), x)
			if e != api.OK || len(table) != n+1 {
				t.Fatalf("%s, %d", shown(table), e)
			}
			if table, e = Drop(table, x.Id, x.Target); e != api.OK || !slices.Equal(table, sized(n)) {
				t.Errorf("%s, %d", shown(table), e)
			}
		}
	}
}
