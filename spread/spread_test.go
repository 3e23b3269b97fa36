package spread

import (
	"math"
	"math/big"
	"math/rand"
	"reflect"
	"slices"
	"strings"
	"testing"

	"posthouse/api"
	"posthouse/proof"
)

// sameSpread holds two spreads against each other; a nil list counts as an empty one.
func sameSpread(a, b api.Spread) bool {
	return slices.Equal(a.Hosts, b.Hosts) && a.Lost == b.Lost && a.Hops == b.Hops && a.Work == b.Work
}

func isZero(s api.Spread) bool { return sameSpread(s, api.Spread{}) }

func repeated(e api.Entry, n int) []api.Entry { return slices.Repeat([]api.Entry{e}, n) }

// toMany is triggers from an identifier to the first of some others, and to the first hosts.
func toMany(a api.Id, others []api.Entry, hosts int) []api.Trigger {
	var l []api.Trigger
	for _, e := range others {
		l = append(l, trig(a, e))
	}
	for host := range hosts {
		l = append(l, trig(a, toHost(host)))
	}
	return ordered(l...)
}

// unwanted is so many identifiers of which no table here has any.
func unwanted(n int) []api.Entry {
	var l []api.Entry
	for i := range n {
		l = append(l, toId(place(byte(200+i))))
	}
	return l
}

// near is so many identifiers that are matched by a's triggers, if there are no likelier ones.
func near(a api.Id, n int) []api.Entry {
	var l []api.Entry
	for i := range n {
		b := a
		b[31] = byte(100 + i)
		l = append(l, toId(b))
	}
	return l
}

// back is a table of so many triggers of a, by each of which a copy comes back to a.
func back(a api.Id, n int) []api.Trigger { return toMany(a, near(a, n), 0) }

func wrongTables() [][]api.Trigger {
	a := place(50)
	l := [][]api.Trigger{
		make([]api.Trigger, 1),
		append(back(a, 32), trig(place(51), toHost(3))),
		{{Id: a, Target: toHost(1), Until: -1}},
		{{Id: a, Target: toHost(1), Until: 1<<40 + 1}},
		{trig(a, toHost(1)), trig(a, toHost(1))},
		{trig(a, toHost(2)), trig(a, toHost(1))},
		{trig(a, toHost(1)), trig(a, toId(place(1)))},
		{trig(a, toId(place(2))), trig(a, toId(place(1)))},
		{trig(place(51), toHost(1)), trig(a, toHost(1))},
		{trig(place(51), toId(a)), trig(a, toId(place(51)))},
	}
	for _, e := range []api.Entry{{}, {Kind: 3}, {Kind: -1}, {Kind: api.EId, Host: 1}, {Kind: api.EHost, Id: a}, toHost(-1), toHost(16), toHost(math.MaxInt), toHost(math.MinInt)} {
		l = append(l, []api.Trigger{trig(a, e)}, ordered(trig(place(10), toId(a)), trig(a, e)))
	}
	return l
}

func rightTables() [][]api.Trigger {
	a, b := place(50), place(60)
	return [][]api.Trigger{
		nil, {}, {trig(a, toHost(0))}, {trig(api.Id{}, toId(api.Id{}))},
		{{Id: a, Target: toHost(15), Until: 0}, {Id: b, Target: toId(a), Until: 1 << 40}},
		back(a, 32), toMany(a, near(b, 16), 16), ordered(trig(a, toId(b)), trig(b, toId(a)), trig(a, toHost(1)), trig(b, toHost(2))),
	}
}

func wrongPackets() []api.Packet {
	a := toId(place(50))
	l := []api.Packet{
		{}, {Hops: 3}, {Stack: []api.Entry{}, Hops: 3, Data: "x"},
		of(3, repeated(a, 5)...), of(3, repeated(toHost(3), 5)...), of(3, repeated(a, 300)...),
	}
	for _, first := range []api.Entry{a, toHost(3), toId(place(51))} {
		for _, hops := range []int{-1, -64, 65, 66, 1 << 32, math.MaxInt, math.MinInt} {
			l = append(l, of(hops, first), of(hops, repeated(first, 4)...))
		}
		for _, n := range []int{65, 66, 256, 5000} {
			l = append(l, api.Packet{Stack: []api.Entry{first}, Data: strings.Repeat("x", n)})
		}
		for _, e := range []api.Entry{{}, {Kind: 3}, {Kind: api.EId, Host: 1}, {Kind: api.EHost, Id: place(50)}, toHost(-1), toHost(16), toHost(math.MinInt)} {
			l = append(l, of(3, e), of(3, e, first), of(3, first, e), of(0, first, first, first, e))
		}
	}
	return l
}

func rightPackets() []api.Packet {
	a, b := toId(place(50)), toId(place(60))
	var l []api.Packet
	for _, hops := range []int{0, 1, 2, 3, 5, 63, 64} {
		l = append(l, of(hops, a), of(hops, toHost(7)), of(hops, b, a, toHost(3), a), of(hops, unwanted(4)...), of(hops, append(unwanted(2), a)...))
	}
	return append(l, api.Packet{Stack: []api.Entry{a}, Hops: 9}, api.Packet{Stack: []api.Entry{a}, Hops: 9, Data: strings.Repeat("\xff", 64)})
}

func TestDeliverByHand(t *testing.T) {
	a, b, c := place(50), place(60), place(70)
	likelier := a
	likelier[31] = 6
	two := []api.Trigger{trig(a, toHost(1)), trig(a, toHost(2))}
	for _, x := range []struct {
		what string
		t    []api.Trigger
		p    api.Packet
		want api.Spread
	}{
		{"the chapter's example", ordered(trig(a, toId(b)), trig(a, toHost(1)), trig(b, toHost(1))), of(9, toId(a)), api.Spread{Hosts: []int{1, 1}, Work: 4}},
		{"a host alone", two, of(9, toHost(5)), api.Spread{Hosts: []int{5}, Work: 1}},
		{"host 0, with no hops and no table", nil, of(0, toHost(0)), api.Spread{Hosts: []int{0}, Work: 1}},
		{"a host ahead of others", two, of(64, toHost(15), toId(a), toHost(3)), api.Spread{Hosts: []int{15}, Work: 1}},
		{"two hosts", two, of(1, toId(a)), api.Spread{Hosts: []int{1, 2}, Work: 3}},
		{"no hops", two, of(0, toId(a)), api.Spread{Hops: 1, Work: 1}},
		{"no hops, and none", two, of(0, toId(b)), api.Spread{Hops: 1, Work: 1}},
		{"none", two, of(1, toId(b)), api.Spread{Lost: 1, Work: 1}},
		{"none, by no table", nil, of(64, toId(b)), api.Spread{Lost: 1, Work: 1}},
		{"the second entry", two, of(2, toId(b), toId(a)), api.Spread{Hosts: []int{1, 2}, Work: 4}},
		{"the second entry, out of hops", two, of(1, toId(b), toId(a)), api.Spread{Hops: 1, Work: 2}},
		{"the last entry, a host", two, of(3, toId(b), toId(c), toId(b), toHost(9)), api.Spread{Hosts: []int{9}, Work: 4}},
		{"all unwanted", two, of(64, toId(b), toId(c), toId(b), toId(c)), api.Spread{Lost: 1, Work: 4}},
		{"the rest, behind a target that none wants", ordered(trig(a, toId(b)), trig(a, toHost(3))), of(9, toId(a), toHost(8)), api.Spread{Hosts: []int{3, 8}, Work: 4}},
		{"the greater host first", ordered(trig(a, toId(b)), trig(a, toHost(9)), trig(b, toHost(4)), trig(b, toHost(0))), of(9, toId(a)), api.Spread{Hosts: []int{0, 4, 9}, Work: 5}},
		{"one to itself", []api.Trigger{trig(a, toId(a))}, of(64, toId(a)), api.Spread{Hops: 1, Work: 65}},
		{"one to itself, and a host", ordered(trig(a, toId(a)), trig(a, toHost(15))), of(3, toId(a)), api.Spread{Hosts: []int{15, 15, 15}, Hops: 1, Work: 7}},
		{"a row that leads back", ordered(trig(a, toId(b)), trig(b, toId(a)), trig(b, toHost(2))), of(5, toId(a)), api.Spread{Hosts: []int{2, 2}, Hops: 1, Work: 8}},
		{"each way to end", ordered(trig(a, toId(b)), trig(a, toId(c)), trig(a, toHost(6)), trig(c, toId(c))), of(2, toId(a)), api.Spread{Hosts: []int{6}, Lost: 1, Hops: 1, Work: 5}},
		{"the likest alone", ordered(trig(a, toHost(1)), trig(likelier, toHost(2))), of(9, toId(api.Id{0: 50, 15: 3, 31: 4})), api.Spread{Hosts: []int{2}, Work: 2}},
		{"triggers whatever their time is", []api.Trigger{{Id: a, Target: toHost(1)}, {Id: a, Target: toHost(2), Until: 1 << 40}}, of(9, toId(a)), api.Spread{Hosts: []int{1, 2}, Work: 3}},
		{"all hosts", toMany(a, nil, 16), of(9, toId(a)), api.Spread{Hosts: []int{0, 1, 2, 3, 4, 5, 6, 7, 8, 9, 10, 11, 12, 13, 14, 15}, Work: 17}},
	} {
		got, err := Deliver(x.t, x.p)
		if err != api.OK || !sameSpread(got, x.want) {
			t.Errorf("%s: %+v, %d, want %+v", x.what, got, err, x.want)
		}
	}
}

// TestDeliverJustSoMany has copies that are 1000 in all, or one more or less.
func TestDeliverJustSoMany(t *testing.T) {
	a, b, c, d := place(50), place(60), place(70), place(80)
	p := of(64, toId(a), toId(b), toId(c), toId(d))
	// 1 for the packet, and of a 6 copies and some hosts, each of the 6 then ahead of b's 4, those of c's 3, and those of d's 11, with one more each as it is not wanted.
	table := func(hosts int) []api.Trigger {
		return slices.Concat(toMany(a, unwanted(6), hosts), toMany(b, unwanted(4), 0), toMany(c, unwanted(3), 0), toMany(d, unwanted(11), 0))
	}
	for hosts := range 9 {
		work := 1 + hosts + 6*(2+4*(2+3*(2+11)))
		var all []int
		for host := range hosts {
			all = append(all, host)
		}
		got, err := Deliver(table(hosts), p)
		if want := (api.Spread{Hosts: all, Lost: 6 * 4 * 3 * 11, Work: work}); work <= 1000 && (err != api.OK || !sameSpread(got, want)) {
			t.Errorf("%d copies: %+v, %d", work, got, err)
		}
		if work > 1000 && (err != api.ErrFull || !isZero(got)) {
			t.Errorf("%d copies: %+v, %d", work, got, err)
		}
		if hosts == 3 && work != 1000 {
			t.Errorf("%d copies, not 1000", work)
		}
	}
	if got, err := Deliver(back(a, 32), of(64, toId(a))); err != api.ErrFull || !isZero(got) {
		t.Errorf("of far too many: %+v, %d", got, err)
	}
}

// TestDeliverUpToTheBound has all triggers lead each copy to all triggers: no packet can have more copies.
func TestDeliverUpToTheBound(t *testing.T) {
	a := place(50)
	full := 0
	for n := 1; n <= 32; n++ {
		for hops := range 65 {
			bound, _ := Bound(n, hops)
			got, err := Deliver(back(a, n), of(hops, toId(a)))
			if bound > 1000 {
				full++
				if err != api.ErrFull || !isZero(got) {
					t.Errorf("%d triggers, %d hops: %+v, %d", n, hops, got, err)
				}
			} else if before, _ := Bound(n, hops-1); err != api.OK || got.Work != bound || got.Hops != bound-before || got.Lost != 0 || len(got.Hosts) > 0 {
				t.Errorf("%d triggers, %d hops: %+v, %d, want %d copies", n, hops, got, err, bound)
			}
		}
	}
	if full < 1000 {
		t.Errorf("only %d are full", full)
	}
}

func TestDeliverOfWhatMayNotBe(t *testing.T) {
	for _, l := range wrongTables() {
		for _, p := range append(rightPackets(), wrongPackets()...) {
			if got, err := Deliver(l, p); err != api.ErrArg || !isZero(got) {
				t.Fatalf("%+v, %d of %+v by %+v", got, err, p, l)
			}
		}
	}
	for _, l := range rightTables() {
		for _, p := range wrongPackets() {
			if got, err := Deliver(l, p); err != api.ErrArg || !isZero(got) {
				t.Fatalf("%+v, %d of %+v by %+v", got, err, p, l)
			}
		}
	}
}

func TestDeliverOfAllThatMayBe(t *testing.T) {
	for _, l := range rightTables() {
		for _, p := range rightPackets() {
			got, err := Deliver(l, p)
			want, wantErr := delivered(l, p)
			if err != wantErr || !sameSpread(got, want) {
				t.Errorf("%+v by %+v: %+v, %d, want %+v, %d", p, l, got, err, want, wantErr)
			}
		}
	}
}

func TestDeliverByChance(t *testing.T) {
	chance := rand.New(rand.NewSource(1))
	var full, many, someLost, outOf int
	for i := range 8000 {
		places := 1 + chance.Intn(8)
		l := chanceTable(chance, 32, places, i%2 == 0)
		p := chancePacket(chance, places)
		got, err := Deliver(l, p)
		want, wantErr := delivered(l, p)
		if err != wantErr || !sameSpread(got, want) {
			t.Fatalf("%+v by %+v:\n%+v, %d, want\n%+v, %d", p, l, got, err, want, wantErr)
		}
		if bound, _ := Bound(len(l), p.Hops); got.Work > bound {
			t.Fatalf("%+v by %+v: %d copies, above %d", p, l, got.Work, bound)
		}
		full += min(int(err), 1)
		many += len(got.Hosts) / 8
		someLost += min(got.Lost, 1)
		outOf += min(got.Hops, 1)
	}
	if full < 200 || many < 800 || someLost < 800 || outOf < 200 {
		t.Errorf("full %d, many hosts %d, lost %d, out of hops %d", full, many, someLost, outOf)
	}
}

// TestHostsDoNotHangOnHops has packets of all hops: where none is dead by them, all is the same.
func TestHostsDoNotHangOnHops(t *testing.T) {
	chance := rand.New(rand.NewSource(2))
	held := 0
	for i := range 600 {
		places := 2 + chance.Intn(8)
		l := chanceTable(chance, 20, places, i%4 > 0)
		p := chancePacket(chance, places)
		var first api.Spread
		for p.Hops = 0; p.Hops <= 64; p.Hops++ {
			got, err := Deliver(l, p)
			if err == api.ErrFull && first.Work == 0 {
				continue
			}
			if err != api.OK || first.Work > 0 && !sameSpread(got, first) {
				t.Fatalf("%+v by %+v: %+v, %d, but of fewer hops %+v", p, l, got, err, first)
			}
			if got.Hops == 0 {
				first = got
				held++
			}
		}
	}
	if held < 10000 {
		t.Errorf("only %d have hops enough", held)
	}
}

// TestHopsEnough has tables of which no row of links leads back, and just so many hops.
func TestHopsEnough(t *testing.T) {
	chance := rand.New(rand.NewSource(3))
	var acyclic, deep int
	for i := range 6000 {
		places := 2 + chance.Intn(12)
		l := chanceTable(chance, 15, places, i%3 > 0)
		links, err := Links(l)
		ok, proofErr := proof.Acyclic(links...)
		if err != api.OK || proofErr != api.OK || ok == leadsBack(l) {
			t.Fatalf("%t, %d, %d of %+v", ok, err, proofErr, l)
		}
		if !ok {
			continue
		}
		acyclic++
		p := chancePacket(chance, places)
		for p.Hops = 4 * (len(l) + 1); p.Hops <= 64; p.Hops++ {
			got, err := Deliver(l, p)
			if err != api.ErrFull && (err != api.OK || got.Hops != 0) {
				t.Fatalf("%+v by %+v: %+v, %d", p, l, got, err)
			}
			deep = max(deep, got.Work)
		}
	}
	if acyclic < 3000 || deep < 200 {
		t.Errorf("only %d of which none leads back, of %d copies at most", acyclic, deep)
	}
}

// TestHopsJustEnough has a row through all triggers, four times, and then nothing: one hop less is too few.
func TestHopsJustEnough(t *testing.T) {
	for n := range 16 {
		var l []api.Trigger
		for i := range n {
			l = append(l, trig(place(byte(i)), toId(place(byte(i+1)))))
		}
		p := of(4*(n+1), repeated(toId(place(0)), 4)...)
		if got, err := Deliver(l, p); err != api.OK || !sameSpread(got, api.Spread{Lost: 1, Work: 4 * (n + 1)}) {
			t.Errorf("%d triggers: %+v, %d", n, got, err)
		}
		p.Hops--
		if got, err := Deliver(l, p); err != api.OK || !sameSpread(got, api.Spread{Hops: 1, Work: 4 * (n + 1)}) {
			t.Errorf("%d triggers, one hop less: %+v, %d", n, got, err)
		}
	}
}

func TestLinksByHand(t *testing.T) {
	a, b, c := place(50), place(60), place(70)
	for _, x := range []struct {
		t    []api.Trigger
		want []api.Link
	}{
		{nil, nil},
		{[]api.Trigger{}, nil},
		{[]api.Trigger{trig(a, toHost(0))}, nil},
		{toMany(a, nil, 16), nil},
		{[]api.Trigger{trig(a, toId(b))}, []api.Link{{From: a, To: b}}},
		{[]api.Trigger{{Id: a, Target: toId(b)}}, []api.Link{{From: a, To: b}}},
		{[]api.Trigger{trig(a, toId(a))}, []api.Link{{From: a, To: a}}},
		{[]api.Trigger{trig(api.Id{}, toId(api.Id{}))}, []api.Link{{}}},
		{ordered(trig(b, toId(a)), trig(a, toHost(3)), trig(a, toId(c)), trig(a, toId(b)), trig(c, toHost(1))), []api.Link{{From: a, To: b}, {From: a, To: c}, {From: b, To: a}}},
	} {
		if got, err := Links(x.t); err != api.OK || !slices.Equal(got, x.want) {
			t.Errorf("%+v: %+v, %d", x.t, got, err)
		}
	}
	if got, err := Links(back(a, 32)); err != api.OK || len(got) != 32 || got[31] != (api.Link{From: a, To: near(a, 32)[31].Id}) {
		t.Errorf("of 32: %+v, %d", got, err)
	}
	for _, l := range wrongTables() {
		if got, err := Links(l); err != api.ErrArg || len(got) > 0 {
			t.Errorf("%+v: %+v, %d", l, got, err)
		}
	}
}

func TestLinksByChance(t *testing.T) {
	chance := rand.New(rand.NewSource(4))
	for range 3000 {
		l := chanceTable(chance, 32, 6, false)
		got, err := Links(l)
		rest := got
		for _, x := range l {
			if x.Target.Kind == api.EHost {
				continue
			}
			if len(rest) == 0 || rest[0].From != x.Id || rest[0].To != x.Target.Id {
				t.Fatalf("%+v: %+v", l, got)
			}
			rest = rest[1:]
		}
		if err != api.OK || len(rest) > 0 {
			t.Fatalf("%+v: %+v, %d", l, got, err)
		}
	}
}

// bounded is the bound by big numbers.
func bounded(triggers, hops int) int {
	sum, end := big.NewInt(1), big.NewInt(1<<40)
	for k := 1; k <= hops; k++ {
		sum.Add(sum, new(big.Int).Exp(big.NewInt(int64(max(triggers, 1))), big.NewInt(int64(k)), nil))
	}
	if sum.Cmp(end) > 0 {
		return 1 << 40
	}
	return int(sum.Int64())
}

func TestBound(t *testing.T) {
	for triggers := range 33 {
		for hops := range 65 {
			if got, err := Bound(triggers, hops); err != api.OK || got != bounded(triggers, hops) {
				t.Errorf("%d, %d: %d, %d, want %d", triggers, hops, got, err, bounded(triggers, hops))
			}
		}
	}
	for _, x := range []struct{ triggers, hops, want int }{
		{0, 0, 1}, {1, 0, 1}, {32, 0, 1}, {0, 1, 2}, {1, 1, 2}, {2, 1, 3}, {32, 1, 33},
		{0, 64, 65}, {1, 64, 65}, {2, 2, 7}, {3, 3, 40}, {32, 2, 1057}, {10, 4, 11111},
		{2, 38, 1<<39 - 1}, {2, 39, 1<<40 - 1}, {2, 40, 1 << 40}, {2, 64, 1 << 40}, {32, 64, 1 << 40},
	} {
		if got, err := Bound(x.triggers, x.hops); err != api.OK || got != x.want {
			t.Errorf("%d, %d: %d, %d, want %d", x.triggers, x.hops, got, err, x.want)
		}
	}
}

func TestBoundOfWhatMayNotBe(t *testing.T) {
	wrong := []int{-1, -2, -64, 1 << 32, -1 << 32, math.MaxInt, math.MinInt}
	ask := func(triggers, hops int) {
		if got, err := Bound(triggers, hops); err != api.ErrArg || got != 0 {
			t.Errorf("%d, %d: %d, %d", triggers, hops, got, err)
		}
	}
	for _, triggers := range append(wrong, 33, 34, 64, 65, 256) {
		for _, hops := range append(wrong, 0, 1, 64, 65) {
			ask(triggers, hops)
		}
	}
	for _, hops := range append(wrong, 65, 66, 256) {
		for _, triggers := range []int{0, 1, 2, 31, 32} {
			ask(triggers, hops)
		}
	}
}

func TestCallsChangeNothing(t *testing.T) {
	for _, l := range append(rightTables(), wrongTables()...) {
		for _, p := range append(rightPackets(), wrongPackets()...) {
			wasTable, wasStack := slices.Clone(l), slices.Clone(p.Stack)
			Deliver(l, p)
			Links(l)
			if !slices.Equal(l, wasTable) || !slices.Equal(p.Stack, wasStack) {
				t.Fatalf("%+v is changed, or %+v", p, l)
			}
		}
	}
}

func TestAnswersAreNewMemory(t *testing.T) {
	chance := rand.New(rand.NewSource(5))
	for range 2000 {
		l, p := chanceTable(chance, 32, 8, true), chancePacket(chance, 8)
		room := append(make([]api.Entry, 0, 12), p.Stack...)
		wasTable, was := slices.Clone(l), slices.Clone(room[:cap(room)])
		p.Stack = room
		one, _ := Deliver(l, p)
		links, _ := Links(l)
		wantHosts, wantLinks := slices.Clone(one.Hosts), slices.Clone(links)
		clear(one.Hosts[:cap(one.Hosts)])
		clear(links[:cap(links)])
		if !slices.Equal(l, wasTable) || !slices.Equal(room[:cap(room)], was) {
			t.Fatalf("an answer shares memory with an argument: %+v of %+v", p, l)
		}
		two, _ := Deliver(l, p)
		again, _ := Links(l)
		if !slices.Equal(two.Hosts, wantHosts) || !slices.Equal(again, wantLinks) {
			t.Fatalf("the same arguments, another answer: %+v, %+v", two, again)
		}
	}
}

func TestANilTableCountsAsAnEmptyOne(t *testing.T) {
	for _, p := range append(rightPackets(), wrongPackets()...) {
		one, oneErr := Deliver(nil, p)
		two, twoErr := Deliver([]api.Trigger{}, p)
		if oneErr != twoErr || !reflect.DeepEqual(one, two) {
			t.Errorf("unlike at no table: %+v", p)
		}
	}
}
