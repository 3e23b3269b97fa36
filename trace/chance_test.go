package trace

import (
	"math/rand"
	"slices"
	"testing"

	"posthouse/api"
)

// dice are what notes are made of, by chance.
type dice struct{ *rand.Rand }

func rolled(seed int64) dice { return dice{rand.New(rand.NewSource(seed))} }

func (d dice) trigger() api.Trigger {
	if d.Intn(4) == 0 {
		return none()
	}
	return trig(place(byte(d.Intn(2))), toHost(d.Intn(2)), 30+30*d.Intn(3))
}

// by is mostly a trigger that was admitted.
func (d dice) by(l []api.Note) api.Trigger {
	var all []api.Trigger
	for _, n := range l {
		if n.Kind == api.NAdmit {
			all = append(all, n.Trigger)
		}
	}
	if len(all) == 0 || d.Intn(6) == 0 {
		return d.trigger()
	}
	return all[d.Intn(len(all))]
}

// letter is mostly one that is known.
func (d dice) letter(l []api.Note) int {
	var all []int
	for _, n := range l {
		if bears(n) {
			all = append(all, n.Letter)
		}
	}
	if len(all) == 0 || d.Intn(40) == 0 {
		return d.Intn(40) - 1
	}
	return all[d.Intn(len(all))]
}

// new is mostly a number that no letter has.
func (d dice) new(l []api.Note) int {
	for range 8 {
		if no := 1 + d.Intn(60); birth(l, no) < 0 {
			return no
		}
	}
	return d.letter(l)
}

// note is one that is mostly justified by those ahead.
func (d dice) note(l []api.Note, at int) api.Note {
	n := api.Note{Kind: 1 + d.Intn(5), At: at, No: d.Intn(6)}
	if d.Intn(3) == 0 {
		n.Kind = api.NOn
	}
	if d.Intn(80) == 0 {
		n.At -= d.Intn(3)
	}
	switch n.Kind {
	case api.NSend:
		n.Letter, n.Data = d.new(l), []string{"", "hi", "ho"}[d.Intn(3)]
	case api.NAdmit:
		n.Trigger = d.trigger()
	case api.NOn:
		n.Was, n.Letter, n.Trigger = d.letter(l), d.new(l), d.by(l)
	case api.NGet:
		n.Was = d.letter(l)
		n.Data, _ = modelData(l, n.Was)
		if d.Intn(20) == 0 {
			n.Data = "hi"
		}
	case api.NLost:
		n.Was, n.Why = d.Intn(60), api.Errno(d.Intn(20))
	}
	return n
}

// row is of many notes: mostly up to one that is not justified, and some behind it.
func (d dice) row(many int) []api.Note {
	var l []api.Note
	at := d.Intn(5) - 2
	for range many {
		at += d.Intn(2) * d.Intn(3)
		n := d.note(l, at)
		if !modelJustified(l, n) && d.Intn(12) > 0 {
			continue
		}
		l = append(l, n)
	}
	return l
}

// spoiled is notes of which one is changed in one thing, or gone, or there twice, or is ahead of where it was.
func (d dice) spoiled(l []api.Note) []api.Note {
	l = slices.Clone(l)
	i := d.Intn(len(l))
	n := &l[i]
	switch d.Intn(14) {
	case 0:
		n.Kind = d.Intn(7)
	case 1:
		n.At--
	case 2:
		n.At++
	case 3:
		n.Was += 1 - 2*d.Intn(2)
	case 4:
		n.Letter -= d.Intn(5)
	case 5:
		n.Letter = d.letter(l)
	case 6:
		n.Trigger.Until += 1 - 2*d.Intn(2)
	case 7:
		n.Trigger.Id[d.Intn(32)]++
	case 8:
		n.Trigger.Target.Host++
	case 9:
		n.Trigger.Target.Id[d.Intn(32)]++
	case 10:
		n.Data += "x"
	case 11:
		return slices.Delete(l, i, i+1)
	case 12:
		return slices.Insert(l, i, *n)
	case 13:
		j := d.Intn(len(l))
		l[i], l[j] = l[j], l[i]
	}
	return l
}

// tally counts what came of notes.
type tally struct {
	check, chain, cost map[api.Errno]int
	// long is of chains, and dear of costs, by how many there are.
	long, dear map[int]int
}

func tallied() tally {
	return tally{map[api.Errno]int{}, map[api.Errno]int{}, map[api.Errno]int{}, map[int]int{}, map[int]int{}}
}

// add asks of notes what the model says of them, in all calls.
func (y tally) add(t *testing.T, l []api.Note) {
	t.Helper()
	place, err := Check(l)
	if want, e := modelCheck(l); place != want || err != e {
		t.Fatalf("%+v: %d, %d, want %d, %d", l, err, place, e, want)
	}
	y.check[err]++
	mustStay(t, l, place, err)
	for at := -1; at <= len(l); at++ {
		by, _, err := chain(t, l, at)
		y.chain[err]++
		if err == api.OK {
			y.long[len(by)]++
			mustBeAdmitted(t, l, at, by)
		}
	}
	var letters []int
	for _, n := range l {
		letters = append(letters, n.Letter, n.Was)
	}
	slices.Sort(letters)
	for _, letter := range slices.Compact(letters) {
		many, err := cost(t, l, letter)
		y.cost[err]++
		y.dear[many]++
	}
}

// mustStay asks that notes that are justified are so without what is behind them, and that the first one that is not stays that, whatever is behind it.
func mustStay(t *testing.T, l []api.Note, place int, err api.Errno) {
	t.Helper()
	for i := range len(l) + 1 {
		got, e := Check(l[:i])
		if i <= place && (got != i || e != api.OK) || i > place && (got != place || e != err) {
			t.Fatalf("the first %d of %+v: %d, %d, of all %d, %d", i, l, e, got, err, place)
		}
	}
	for at := range place {
		by, no, e := Chain(l[:at+1], at)
		again, from, e2 := Chain(l[:place], at)
		if !slices.Equal(by, again) || no != from || e != e2 {
			t.Fatalf("%d of %+v: %d, %d, %+v, alone %d, %d, %+v", at, l, e2, from, again, e, no, by)
		}
	}
}

// mustBeAdmitted asks that each trigger of a chain was admitted, and lived when a letter went on by it.
func mustBeAdmitted(t *testing.T, l []api.Note, at int, by []api.Trigger) {
	t.Helper()
	for _, x := range by {
		went := slices.IndexFunc(l[:at], func(n api.Note) bool {
			return n.Kind == api.NOn && n.Trigger == x && n.At < x.Until
		})
		admitted := slices.IndexFunc(l[:at], func(n api.Note) bool { return n.Kind == api.NAdmit && n.Trigger == x })
		if admitted < 0 || went < admitted {
			t.Fatalf("%d of %+v: %+v is admitted at %d, and led on at %d", at, l, x, admitted, went)
		}
	}
}

// TestByChance asks of notes, justified and not, what the model says of them.
func TestByChance(t *testing.T) {
	y := tallied()
	for seed := range int64(1500) {
		d := rolled(seed)
		l := d.row(d.Intn(45))
		y.add(t, l)
		if len(l) > 0 {
			y.add(t, d.spoiled(l))
		}
	}
	if y.check[api.OK] < 400 || y.check[api.ErrProof] < 400 || y.chain[api.OK] < 1000 || y.chain[api.ErrNone] < 5000 || y.cost[api.OK] < 1000 || y.cost[api.ErrNone] < 2000 {
		t.Errorf("%v, %v, %v", y.check, y.chain, y.cost)
	}
	for n := range 4 {
		if y.long[n] < 20 || y.dear[1+n] < 100 {
			t.Errorf("%v, %v", y.long, y.dear)
		}
	}
}

// TestNothingPanics is of notes of which nothing is sure.
func TestNothingPanics(t *testing.T) {
	d := rolled(77)
	for range 3000 {
		var l []api.Note
		for range d.Intn(8) {
			n := api.Note{Kind: d.Intn(8) - 1, At: d.Intn(3), No: int(d.Uint64()), Was: d.Intn(5) - 1, Letter: d.Intn(6) - 1, Trigger: d.trigger(), Why: api.Errno(d.Uint64())}
			if d.Intn(8) == 0 {
				n.At, n.Was, n.Letter = int(d.Uint64()), int(d.Uint64()), int(d.Uint64())
			}
			l = append(l, n)
		}
		at := d.Intn(10) - 1
		if d.Intn(5) == 0 {
			at = int(d.Uint64())
		}
		chain(t, l, at)
		cost(t, l, at)
		place, err := Check(l)
		if want, e := modelCheck(l); place != want || err != e {
			t.Fatalf("%+v: %d, %d, want %d, %d", l, err, place, e, want)
		}
	}
}
