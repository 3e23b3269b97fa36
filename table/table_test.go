package table

import (
	"fmt"
	"math"
	"slices"
	"testing"

	"posthouse/api"
)

const maxTick = 1 << 40

func filled(b byte) api.Id {
	var a api.Id
	for i := range a {
		a[i] = b
	}
	return a
}

// place is an identifier that begins with a byte.
func place(b byte) api.Id { return api.Id{0: b, 15: 3, 31: 7} }

func toId(a api.Id) api.Entry { return api.Entry{Kind: api.EId, Id: a} }

func toHost(n int) api.Entry { return api.Entry{Kind: api.EHost, Host: n} }

func trig(a api.Id, target api.Entry, until int) api.Trigger {
	return api.Trigger{Id: a, Target: target, Until: until}
}

// sized is a table of n triggers: of each identifier one to an identifier and two to hosts.
func sized(n int) []api.Trigger {
	var t []api.Trigger
	for i := range n {
		a := place(byte(10 + 7*(i/3)))
		target := toId(place(byte(200 - i)))
		if i%3 > 0 {
			target = toHost(i % 3 * 5)
		}
		t = append(t, trig(a, target, 100+i*37%50))
	}
	return t
}

// changed is a copy of a table with something done to it.
func changed(t []api.Trigger, change func([]api.Trigger)) []api.Trigger {
	t = slices.Clone(t)
	change(t)
	return t
}

// shown is a table in short.
func shown(t []api.Trigger) string {
	text := fmt.Sprintf("table of %d:", len(t))
	for _, x := range t[:min(len(t), 4)] {
		text += fmt.Sprintf(" %x %d %x %d until %d,", x.Id, x.Target.Kind, x.Target.Id, x.Target.Host, x.Until)
	}
	return text
}

// rightTargets stand in the order that they have in a table.
func rightTargets() []api.Entry {
	l := []api.Entry{toId(api.Id{}), toId(api.Id{31: 1}), toId(api.Id{31: 255}), toId(api.Id{30: 1}), toId(api.Id{0: 1}), toId(api.Id{0: 128}), toId(filled(255))}
	for n := range 16 {
		l = append(l, toHost(n))
	}
	return l
}

func wrongTargets() []api.Entry {
	l := []api.Entry{
		{},
		{Id: place(1)},
		{Host: 1},
		{Kind: api.EId, Host: 1},
		{Kind: api.EId, Host: -1},
		{Kind: api.EId, Id: place(1), Host: 15},
		{Kind: api.EHost, Id: api.Id{31: 1}},
		{Kind: api.EHost, Id: api.Id{0: 128}, Host: 3},
	}
	for _, kind := range []int{0, 3, -1, 4, 255, 257, 258, math.MaxInt, math.MinInt} {
		l = append(l, api.Entry{Kind: kind}, api.Entry{Kind: kind, Host: 3}, api.Entry{Kind: kind, Id: place(1)})
	}
	for _, host := range []int{-1, 16, 17, 255, 256, 1 << 32, math.MaxInt, math.MinInt} {
		l = append(l, toHost(host))
	}
	return l
}

func rightTimes() []int { return []int{0, 1, 2, 255, 256, 1 << 31, 1 << 32, maxTick - 1, maxTick} }

func wrongTimes() []int {
	return []int{-1, -2, -256, -maxTick, maxTick + 1, maxTick + 2, 2 * maxTick, math.MaxInt, math.MinInt}
}

// rightTriggers stand in the order that they have in a table, if each time counts as one of another table.
func rightTriggers() []api.Trigger {
	var l []api.Trigger
	for _, a := range []api.Id{{}, {31: 1}, {31: 255}, {30: 1}, {16: 1}, {15: 255}, {0: 1}, {0: 127, 31: 9}, {0: 128}, filled(255)} {
		for _, target := range rightTargets() {
			l = append(l, trig(a, target, rightTimes()[len(l)%len(rightTimes())]))
		}
	}
	return l
}

func wrongTriggers() []api.Trigger {
	l := []api.Trigger{{}}
	for _, target := range wrongTargets() {
		l = append(l, trig(place(9), target, 5))
	}
	for _, until := range wrongTimes() {
		l = append(l, trig(place(9), toHost(3), until), trig(place(9), toId(place(4)), until), trig(api.Id{}, toHost(0), until))
	}
	return l
}

func rightTables() [][]api.Trigger {
	l := [][]api.Trigger{nil, {}}
	for n := range 33 {
		l = append(l, sized(n))
	}
	for _, x := range rightTriggers() {
		l = append(l, []api.Trigger{x})
	}
	for some := range slices.Chunk(rightTriggers(), 32) {
		l = append(l, some)
	}
	return l
}

func wrongTables() [][]api.Trigger {
	l := [][]api.Trigger{sized(33), sized(34), sized(64), sized(96), rightTriggers()[:33], rightTriggers(), make([]api.Trigger, 1), make([]api.Trigger, 2)}
	for _, x := range wrongTriggers() {
		l = append(l, []api.Trigger{x})
	}
	for i := range 32 {
		l = append(l,
			changed(sized(32), func(t []api.Trigger) { t[i].Until = -1 }),
			changed(sized(32), func(t []api.Trigger) { t[i].Until = maxTick + 1 }),
			changed(sized(32), func(t []api.Trigger) { t[i].Target.Kind = 0 }),
			changed(sized(32), func(t []api.Trigger) { t[i].Target.Host = 16 }),
			slices.Insert(sized(31), i, sized(32)[30]),
		)
	}
	for i := range 31 {
		l = append(l,
			changed(sized(32), func(t []api.Trigger) { t[i], t[i+1] = t[i+1], t[i] }),
			changed(sized(32), func(t []api.Trigger) { t[i] = t[i+1] }),
			changed(sized(32), func(t []api.Trigger) { t[i+1] = t[i]; t[i+1].Until++ }),
			changed(sized(32), func(t []api.Trigger) { t[i+1] = t[i]; t[i].Until++ }),
			changed(sized(32), func(t []api.Trigger) { t[0], t[i+1] = t[i+1], t[0] }),
		)
	}
	return append(l, changed(sized(32), slices.Reverse[[]api.Trigger]), slices.Repeat(sized(1), 32))
}

func TestTablesThatMayBe(t *testing.T) {
	for _, table := range rightTables() {
		if !Right(table) {
			t.Errorf("may not be: %s", shown(table))
		}
	}
}

func TestTablesThatMayNotBe(t *testing.T) {
	for i, table := range wrongTables() {
		if Right(table) {
			t.Errorf("may be: %d, %s", i, shown(table))
		}
	}
}

func TestTimesOfTriggersThatMayBe(t *testing.T) {
	for _, until := range rightTimes() {
		if !Right([]api.Trigger{trig(place(1), toHost(1), until)}) {
			t.Errorf("until %d a trigger may not be", until)
		}
	}
	for _, until := range wrongTimes() {
		if Right([]api.Trigger{trig(place(1), toHost(1), until)}) {
			t.Errorf("until %d a trigger may be", until)
		}
	}
}

func TestTablesOfTwoGoByIdThenKindThenTargetIdThenHost(t *testing.T) {
	all := rightTriggers()
	for i, a := range all {
		for k, b := range all {
			if got := Right([]api.Trigger{a, b}); got != (i < k) {
				t.Fatalf("%t: %s", got, shown([]api.Trigger{a, b}))
			}
		}
	}
}

func TestTheFirstThingThatIsUnlikeTellsTheOrder(t *testing.T) {
	low, high := api.Id{31: 1}, api.Id{0: 1}
	for _, c := range []struct {
		what         string
		ahead, after api.Trigger
	}{
		{"identifiers ahead of kinds", trig(low, toHost(0), 1), trig(high, toId(low), 1)},
		{"identifiers ahead of targets' identifiers", trig(low, toId(high), 1), trig(high, toId(low), 1)},
		{"identifiers ahead of hosts", trig(low, toHost(15), 1), trig(high, toHost(0), 1)},
		{"kinds ahead of targets' identifiers", trig(low, toId(high), 1), trig(low, toHost(0), 1)},
		{"kinds ahead of hosts", trig(low, toId(low), 1), trig(low, toHost(0), 1)},
		{"kinds, where the identifiers and hosts are alike", trig(low, toId(api.Id{}), 1), trig(low, toHost(0), 1)},
		{"targets' identifiers", trig(low, toId(low), 1), trig(low, toId(high), 1)},
		{"hosts", trig(low, toHost(9), 1), trig(low, toHost(10), 1)},
		{"identifiers ahead of times", trig(low, toHost(3), 9), trig(high, toHost(3), 1)},
		{"hosts ahead of times", trig(low, toHost(3), 9), trig(low, toHost(4), 1)},
	} {
		if !Right([]api.Trigger{c.ahead, c.after}) || Right([]api.Trigger{c.after, c.ahead}) {
			t.Errorf("%s: not so", c.what)
		}
		if got, e := Put([]api.Trigger{c.after}, c.ahead); e != api.OK || !slices.Equal(got, []api.Trigger{c.ahead, c.after}) {
			t.Errorf("%s: put ahead: %s, %d", c.what, shown(got), e)
		}
		if got, e := Put([]api.Trigger{c.ahead}, c.after); e != api.OK || !slices.Equal(got, []api.Trigger{c.ahead, c.after}) {
			t.Errorf("%s: put behind: %s, %d", c.what, shown(got), e)
		}
	}
}

// calls are all calls that answer tables, of other arguments that fit a table of sized.
func calls() map[string]func([]api.Trigger) ([]api.Trigger, []api.Trigger, api.Errno) {
	one := func(l []api.Trigger, e api.Errno) ([]api.Trigger, []api.Trigger, api.Errno) { return l, nil, e }
	x := sized(1)[0]
	return map[string]func([]api.Trigger) ([]api.Trigger, []api.Trigger, api.Errno){
		"Put of one that is there": func(l []api.Trigger) ([]api.Trigger, []api.Trigger, api.Errno) {
			return one(Put(l, trig(x.Id, x.Target, 500)))
		},
		"Put of one that is not there": func(l []api.Trigger) ([]api.Trigger, []api.Trigger, api.Errno) {
			return one(Put(l, trig(x.Id, toHost(4), 500)))
		},
		"Put of a wrong one": func(l []api.Trigger) ([]api.Trigger, []api.Trigger, api.Errno) {
			return one(Put(l, trig(x.Id, toHost(16), 500)))
		},
		"Drop of one that is there": func(l []api.Trigger) ([]api.Trigger, []api.Trigger, api.Errno) {
			return one(Drop(l, x.Id, x.Target))
		},
		"Put of the last one": func(l []api.Trigger) ([]api.Trigger, []api.Trigger, api.Errno) {
			y := slices.Concat(sized(1), l)[len(l)]
			return one(Put(l, trig(y.Id, y.Target, 500)))
		},
		"Put behind all": func(l []api.Trigger) ([]api.Trigger, []api.Trigger, api.Errno) {
			return one(Put(l, trig(filled(255), toHost(15), 500)))
		},
		"Drop of the last one": func(l []api.Trigger) ([]api.Trigger, []api.Trigger, api.Errno) {
			y := slices.Concat(sized(1), l)[len(l)]
			return one(Drop(l, y.Id, y.Target))
		},
		"Drop of one that is not there": func(l []api.Trigger) ([]api.Trigger, []api.Trigger, api.Errno) {
			return one(Drop(l, x.Id, toHost(4)))
		},
		"Expire of some": func(l []api.Trigger) ([]api.Trigger, []api.Trigger, api.Errno) {
			return one(Expire(l, 110))
		},
		"Expire of none": func(l []api.Trigger) ([]api.Trigger, []api.Trigger, api.Errno) {
			return one(Expire(l, -1))
		},
		"Match of one that is there": func(l []api.Trigger) ([]api.Trigger, []api.Trigger, api.Errno) {
			return one(Match(l, x.Id))
		},
		"Match of one that is not there": func(l []api.Trigger) ([]api.Trigger, []api.Trigger, api.Errno) {
			return one(Match(l, filled(255)))
		},
		"Cut of all": func(l []api.Trigger) ([]api.Trigger, []api.Trigger, api.Errno) {
			return Cut(l, x.Id, x.Id)
		},
		"Cut of some": func(l []api.Trigger) ([]api.Trigger, []api.Trigger, api.Errno) {
			return Cut(l, filled(255), place(38))
		},
	}
}

func TestTablesThatMayNotBeAreAWrongArgumentAheadOfAllElse(t *testing.T) {
	for name, call := range calls() {
		for _, table := range wrongTables() {
			if one, two, e := call(table); e != api.ErrArg || len(one) > 0 || len(two) > 0 {
				t.Errorf("%s: %s and %s, %d of %s", name, shown(one), shown(two), e, shown(table))
			}
		}
	}
}

func TestPutOfWrongTriggers(t *testing.T) {
	for _, n := range []int{0, 1, 5, 31, 32} {
		for _, x := range wrongTriggers() {
			if got, e := Put(sized(n), x); e != api.ErrArg || len(got) > 0 {
				t.Errorf("on %d: %s, %d of %s", n, shown(got), e, shown([]api.Trigger{x}))
			}
		}
	}
	// Of the identifier and target of one that is there it is wrong by its time alone.
	for _, until := range wrongTimes() {
		for _, x := range sized(32) {
			if got, e := Put(sized(32), trig(x.Id, x.Target, until)); e != api.ErrArg || len(got) > 0 {
				t.Errorf("until %d: %s, %d", until, shown(got), e)
			}
		}
	}
}

func TestPutInItsPlace(t *testing.T) {
	for n := 1; n <= 32; n++ {
		for i, x := range sized(n) {
			if got, e := Put(slices.Delete(sized(n), i, i+1), x); e != api.OK || !slices.Equal(got, sized(n)) {
				t.Errorf("at %d of %d: %s, %d", i, n, shown(got), e)
			}
		}
	}
}

func TestPutOfAllThatMayBe(t *testing.T) {
	for _, x := range rightTriggers() {
		if got, e := Put(nil, x); e != api.OK || !slices.Equal(got, []api.Trigger{x}) {
			t.Errorf("%s, %d of %s", shown(got), e, shown([]api.Trigger{x}))
		}
	}
}

func TestPutOfOneThatIsThereLivesLonger(t *testing.T) {
	for n := 1; n <= 32; n++ {
		for i, x := range sized(n) {
			for _, until := range []int{0, 1, x.Until - 1, x.Until, x.Until + 1, 1000, maxTick} {
				want := changed(sized(n), func(l []api.Trigger) { l[i].Until = max(x.Until, until) })
				if got, e := Put(sized(n), trig(x.Id, x.Target, until)); e != api.OK || !slices.Equal(got, want) {
					t.Errorf("at %d of %d until %d: %s, %d", i, n, until, shown(got), e)
				}
			}
		}
	}
}

// unlike are triggers that are like one in all but one thing that tells triggers from one another.
func unlike(x api.Trigger) []api.Trigger {
	var l []api.Trigger
	for _, bit := range []byte{1, 128} {
		for _, at := range []int{0, 15, 16, 31} {
			a, target := x.Id, x.Target
			a[at] ^= bit
			l = append(l, trig(a, x.Target, x.Until))
			if target.Kind == api.EId {
				target.Id[at] ^= bit
				l = append(l, trig(x.Id, target, x.Until))
			}
		}
	}
	if x.Target.Kind == api.EId {
		return append(l, trig(x.Id, toHost(0), x.Until))
	}
	return append(l, trig(x.Id, toId(api.Id{}), x.Until), trig(x.Id, toHost(x.Target.Host^1), x.Until), trig(x.Id, toHost(x.Target.Host^8), x.Until))
}

func TestPutOfOneThatIsAlmostThere(t *testing.T) {
	for _, x := range append(rightTriggers(), sized(32)...) {
		for _, y := range unlike(x) {
			got, e := Put([]api.Trigger{x}, y)
			if e != api.OK || len(got) != 2 || !slices.Contains(got, x) || !slices.Contains(got, y) || !Right(got) {
				t.Errorf("%s, %d", shown(got), e)
			}
		}
	}
}

func TestPutOnAFullTable(t *testing.T) {
	for _, table := range [][]api.Trigger{sized(32), rightTriggers()[:32], rightTriggers()[40:72]} {
		for _, x := range append(rightTriggers(), sized(48)...) {
			isThere := slices.ContainsFunc(table, func(y api.Trigger) bool { return y.Id == x.Id && y.Target == x.Target })
			got, e := Put(table, x)
			if isThere && (e != api.OK || len(got) != 32) || !isThere && (e != api.ErrFull || len(got) > 0) {
				t.Errorf("%s, %d of %s", shown(got), e, shown([]api.Trigger{x}))
			}
		}
		if got, e := Put(table[:31], trig(filled(254), toHost(3), 3)); e != api.OK || len(got) != 32 {
			t.Errorf("on 31: %s, %d", shown(got), e)
		}
	}
}

func TestPutUntilTheTableIsFull(t *testing.T) {
	var table []api.Trigger
	var e api.Errno
	for i := range 40 {
		// 23 is prime to 40, and so each comes once, in no order.
		x := sized(40)[i*23%40]
		was := table
		if table, e = Put(was, x); i < 32 {
			if e != api.OK || len(table) != i+1 || !slices.Contains(table, x) {
				t.Fatalf("%d: %s, %d", i, shown(table), e)
			}
			continue
		}
		if e != api.ErrFull || len(table) > 0 {
			t.Fatalf("%d: %s, %d", i, shown(table), e)
		}
		table = was
	}
}

func TestDropOfEachPlace(t *testing.T) {
	for n := 1; n <= 32; n++ {
		for i, x := range sized(n) {
			if got, e := Drop(sized(n), x.Id, x.Target); e != api.OK || !slices.Equal(got, slices.Delete(sized(n), i, i+1)) {
				t.Errorf("%d of %d: %s, %d", i, n, shown(got), e)
			}
		}
	}
}

func TestDropOfNone(t *testing.T) {
	for _, x := range append(rightTriggers(), wrongTriggers()...) {
		for _, table := range [][]api.Trigger{nil, {}, sized(1), sized(32)} {
			if got, e := Drop(table, x.Id, x.Target); e != api.ErrNone || len(got) > 0 {
				t.Errorf("%s, %d of %s", shown(got), e, shown([]api.Trigger{x}))
			}
		}
	}
	for n := range 33 {
		for _, x := range sized(40)[n:] {
			if got, e := Drop(sized(n), x.Id, x.Target); e != api.ErrNone || len(got) > 0 {
				t.Errorf("of %d: %s, %d", n, shown(got), e)
			}
		}
	}
}

func TestDropOfOneThatIsAlmostThere(t *testing.T) {
	for _, x := range append(rightTriggers(), sized(32)...) {
		others := unlike(x)
		// A target that may not be is none's, and no other fault is named for it.
		for _, target := range []api.Entry{
			{Kind: x.Target.Kind, Id: x.Target.Id, Host: x.Target.Host + 16},
			{Kind: x.Target.Kind, Id: x.Target.Id, Host: x.Target.Host - 256},
			{Kind: x.Target.Kind + 2, Id: x.Target.Id, Host: x.Target.Host},
			{Kind: 0, Id: x.Target.Id, Host: x.Target.Host},
			{Kind: 3 - x.Target.Kind, Id: x.Target.Id, Host: x.Target.Host},
		} {
			others = append(others, trig(x.Id, target, x.Until))
		}
		for _, y := range others {
			if got, e := Drop([]api.Trigger{x}, y.Id, y.Target); e != api.ErrNone || len(got) > 0 {
				t.Errorf("%s, %d of %s", shown(got), e, shown([]api.Trigger{x, y}))
			}
		}
	}
}

func TestExpireOfEachTick(t *testing.T) {
	for n := range 33 {
		for now := 90; now < 160; now++ {
			var want []api.Trigger
			for _, x := range sized(n) {
				if x.Until-now >= 1 {
					want = append(want, x)
				}
			}
			if got, e := Expire(sized(n), now); e != api.OK || !slices.Equal(got, want) {
				t.Errorf("of %d at %d: %s, %d", n, now, shown(got), e)
			}
		}
	}
}

func TestExpireAtItsEdges(t *testing.T) {
	for _, until := range rightTimes() {
		table := []api.Trigger{trig(place(1), toId(place(2)), until), trig(place(1), toHost(0), until)}
		for _, c := range []struct {
			now  int
			left bool
		}{
			{math.MinInt, true}, {-maxTick, true}, {-1, true}, {until - 1, true},
			{until, false}, {until + 1, false}, {maxTick, false}, {maxTick + 1, false}, {math.MaxInt, false},
		} {
			got, e := Expire(table, c.now)
			if e != api.OK || c.left && !slices.Equal(got, table) || !c.left && len(got) > 0 {
				t.Errorf("until %d at %d: %s, %d", until, c.now, shown(got), e)
			}
		}
	}
}

func TestCallsChangeNothing(t *testing.T) {
	for _, table := range append(rightTables(), wrongTables()...) {
		was := slices.Clone(table)
		Right(table)
		for name, call := range calls() {
			if call(table); !slices.Equal(table, was) {
				t.Fatalf("%s changed its table", name)
			}
		}
	}
}

// spoil writes over a list, and over all that there is room for behind it.
func spoil(l []api.Trigger) {
	l = l[:cap(l)]
	for i := range l {
		l[i] = trig(filled(17), toHost(1), 17)
	}
}

func TestAnswersAreNewMemory(t *testing.T) {
	for n := range 33 {
		for name, call := range calls() {
			room := append(make([]api.Trigger, 0, 80), sized(48)...)
			table := room[:n]
			was := slices.Clone(room[:cap(room)])
			one, two, e := call(table)
			again, againTwo, _ := call(table)
			oneWas, twoWas := slices.Clone(again), slices.Clone(againTwo)
			spoil(one)
			if !slices.Equal(two, againTwo) {
				t.Errorf("%s of %d, %d: two lists of one answer share memory", name, n, e)
			}
			spoil(two)
			if !slices.Equal(room[:cap(room)], was) {
				t.Errorf("%s of %d, %d: an answer shares memory with its table", name, n, e)
			}
			if !slices.Equal(again, oneWas) || !slices.Equal(againTwo, twoWas) {
				t.Errorf("%s of %d, %d: two answers share memory", name, n, e)
			}
		}
	}
}

func TestSameArgumentsSameAnswer(t *testing.T) {
	for _, table := range rightTables() {
		for name, call := range calls() {
			one, oneRest, e := call(table)
			two, twoRest, f := call(slices.Grow(slices.Clone(table), 40))
			if e != f || !slices.Equal(one, two) || !slices.Equal(oneRest, twoRest) {
				t.Errorf("%s answers unlike at the same table", name)
			}
		}
	}
}

func TestANilTableCountsAsAnEmptyOne(t *testing.T) {
	for name, call := range calls() {
		one, oneRest, e := call(nil)
		two, twoRest, f := call([]api.Trigger{})
		if e != f || !slices.Equal(one, two) || !slices.Equal(oneRest, twoRest) {
			t.Errorf("%s answers unlike at no table", name)
		}
	}
}
