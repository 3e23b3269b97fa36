package rewrite

import (
	"bytes"
	"math"
	"math/rand"
	"reflect"
	"slices"
	"strings"
	"testing"

	"posthouse/api"
)

// place is an identifier that begins with a byte.
func place(b byte) api.Id { return api.Id{0: b, 15: 3, 31: 7} }

func filled(b byte) api.Id { return api.Id(bytes.Repeat([]byte{b}, 32)) }

func toId(a api.Id) api.Entry { return api.Entry{Kind: api.EId, Id: a} }

func toHost(n int) api.Entry { return api.Entry{Kind: api.EHost, Host: n} }

func trig(a api.Id, target api.Entry, until int) api.Trigger {
	return api.Trigger{Id: a, Target: target, Until: until}
}

func of(hops int, data string, l ...api.Entry) api.Packet {
	return api.Packet{Stack: l, Hops: hops, Data: data}
}

func goesOn(p api.Packet, by api.Trigger) api.Out {
	return api.Out{Kind: api.OOn, Packet: p, By: by}
}

func comesTo(host int, p api.Packet) api.Out {
	return api.Out{Kind: api.OHost, Host: host, Packet: p}
}

func isDead(why api.Errno) api.Out { return api.Out{Kind: api.ODead, Why: why} }

// three is a table of three triggers of one identifier, and one ahead and one behind.
func three() []api.Trigger {
	return []api.Trigger{
		trig(place(10), toHost(9), 100),
		trig(place(50), toId(place(70)), 40),
		trig(place(50), toHost(1), 0),
		trig(place(50), toHost(2), 1<<40),
		trig(place(90), toId(place(50)), 7),
	}
}

// full is a table of 32 triggers of one identifier.
func full() []api.Trigger {
	var l []api.Trigger
	for i := range 16 {
		l = append(l, trig(place(50), toId(place(byte(100+i))), i))
	}
	for i := range 16 {
		l = append(l, trig(place(50), toHost(i), 100-i))
	}
	return l
}

func wrongEntries() []api.Entry {
	return []api.Entry{
		{}, {Host: 3}, {Id: place(1)}, {Kind: 3}, {Kind: -1}, {Kind: 257}, {Kind: math.MaxInt},
		{Kind: api.EId, Host: 1}, {Kind: api.EId, Id: place(50), Host: -1},
		{Kind: api.EHost, Id: api.Id{31: 1}}, {Kind: api.EHost, Id: place(50), Host: 3},
		toHost(-1), toHost(16), toHost(256), toHost(math.MaxInt), toHost(math.MinInt),
	}
}

func rightPackets() []api.Packet {
	var l []api.Packet
	for hops := range 65 {
		l = append(l, of(hops, "hello", toId(place(50))), of(hops, "", toHost(hops%16), toId(place(50))))
	}
	for n := range 65 {
		l = append(l, of(3, strings.Repeat("\x00", n), toId(place(byte(n))), toHost(3)), of(0, strings.Repeat("\xff", n), toHost(15)))
	}
	for n := 1; n <= 4; n++ {
		for host := range 16 {
			l = append(l, of(64, "all", slices.Repeat([]api.Entry{toHost(host)}, n)...))
		}
		for _, a := range []api.Id{{}, filled(255), place(50), place(51)} {
			l = append(l, of(64, "all", slices.Repeat([]api.Entry{toId(a)}, n)...), of(1, "\n", slices.Concat([]api.Entry{toId(a)}, slices.Repeat([]api.Entry{toHost(0)}, n-1))...))
		}
	}
	return l
}

func wrongPackets() []api.Packet {
	l := []api.Packet{
		{}, {Hops: 3}, {Stack: []api.Entry{}, Hops: 3, Data: "x"},
		of(3, "x", slices.Repeat([]api.Entry{toId(place(50))}, 5)...),
		of(3, "x", slices.Repeat([]api.Entry{toHost(3)}, 5)...),
		of(3, "x", slices.Repeat([]api.Entry{toHost(3)}, 300)...),
	}
	for _, first := range []api.Entry{toHost(3), toId(place(50)), toId(place(51))} {
		for _, hops := range []int{-1, -2, -64, 65, 66, 256, 1 << 32, math.MaxInt, math.MinInt} {
			l = append(l, of(hops, "x", first), of(hops, "", first, first, first, first))
		}
		for _, n := range []int{65, 66, 128, 256, 320, 5000} {
			l = append(l, of(3, strings.Repeat("x", n), first), of(0, strings.Repeat("\x00", n), first, first))
		}
		for _, e := range wrongEntries() {
			for n := 1; n <= 4; n++ {
				for i := range n {
					s := slices.Repeat([]api.Entry{first}, n)
					s[i] = e
					l = append(l, of(3, "x", s...), of(0, "", s...))
				}
			}
		}
	}
	return l
}

func rightTables() [][]api.Trigger {
	l := [][]api.Trigger{nil, {}, three(), full()}
	for i := range three() {
		l = append(l, three()[i:], three()[:i])
	}
	return l
}

func wrongTables() [][]api.Trigger {
	l := [][]api.Trigger{
		make([]api.Trigger, 1),
		append(full(), trig(place(51), toHost(3), 3)),
		{trig(place(50), toHost(1), -1)},
		{trig(place(50), toHost(1), 1<<40+1)},
		{trig(place(50), toHost(1), 5), trig(place(50), toHost(1), 6)},
		{trig(place(50), toHost(2), 5), trig(place(50), toHost(1), 5)},
		{trig(place(50), toHost(1), 5), trig(place(50), toId(place(1)), 5)},
		{trig(place(51), toHost(1), 5), trig(place(50), toHost(1), 5)},
	}
	for _, e := range wrongEntries() {
		l = append(l, []api.Trigger{trig(place(50), e, 5)})
	}
	return l
}

func TestPacketsThatMayBe(t *testing.T) {
	for _, p := range rightPackets() {
		if !Right(p) {
			t.Errorf("may not be: %+v", p)
		}
	}
	for _, p := range wrongPackets() {
		if Right(p) {
			t.Errorf("may be: %+v", p)
		}
	}
}

func TestSame(t *testing.T) {
	all := append(rightPackets(), wrongPackets()...)
	for i, a := range all {
		for k := i; k < len(all); k++ {
			b := all[k]
			want := slices.Equal(a.Stack, b.Stack) && a.Hops == b.Hops && a.Data == b.Data
			b.Stack = slices.Clone(b.Stack)
			if Same(a, b) != want || Same(b, a) != want {
				t.Errorf("%t: %+v and %+v", !want, a, b)
			}
		}
	}
}

func TestSameHangsOnEachThing(t *testing.T) {
	p := of(7, "data", toId(place(50)), toHost(3), toId(place(60)))
	for what, q := range map[string]api.Packet{
		"hops":                 of(8, "data", toId(place(50)), toHost(3), toId(place(60))),
		"data":                 of(7, "date", toId(place(50)), toHost(3), toId(place(60))),
		"longer data":          of(7, "data\x00", toId(place(50)), toHost(3), toId(place(60))),
		"no data":              of(7, "", toId(place(50)), toHost(3), toId(place(60))),
		"an identifier's bit":  of(7, "data", toId(api.Id{0: 50, 15: 3, 31: 6}), toHost(3), toId(place(60))),
		"a host":               of(7, "data", toId(place(50)), toHost(4), toId(place(60))),
		"the last entry":       of(7, "data", toId(place(50)), toHost(3), toId(place(61))),
		"a stack not so deep":  of(7, "data", toId(place(50)), toHost(3)),
		"a deeper stack":       of(7, "data", toId(place(50)), toHost(3), toId(place(60)), toHost(0)),
		"the entries' order":   of(7, "data", toHost(3), toId(place(50)), toId(place(60))),
		"no stack":             of(7, "data"),
		"a kind that is wrong": of(7, "data", toId(place(50)), api.Entry{Kind: 3, Host: 3}, toId(place(60))),
	} {
		if Same(p, q) || Same(q, p) || !Same(q, q) {
			t.Errorf("the same but for %s", what)
		}
	}
	if !Same(of(0, ""), api.Packet{Stack: []api.Entry{}}) {
		t.Error("no entries are not the same as no entries")
	}
}

func TestStepByHand(t *testing.T) {
	a, b, c := toId(place(50)), toId(place(90)), toId(place(51))
	for _, x := range []struct {
		what string
		t    []api.Trigger
		p    api.Packet
		want []api.Out
	}{
		{"the chapter's example", []api.Trigger{trig(place(50), toHost(1), 5), trig(place(50), toHost(2), 6)}, of(9, "hi", a), []api.Out{
			goesOn(of(8, "hi", toHost(1)), trig(place(50), toHost(1), 5)),
			goesOn(of(8, "hi", toHost(2)), trig(place(50), toHost(2), 6)),
		}},
		{"a host alone", three(), of(9, "hi", toHost(5)), []api.Out{comesTo(5, of(9, "hi", toHost(5)))}},
		{"host 0", three(), of(9, "hi", toHost(0)), []api.Out{comesTo(0, of(9, "hi", toHost(0)))}},
		{"a host ahead of others", three(), of(64, "", toHost(15), a, toHost(2), b), []api.Out{comesTo(15, of(64, "", toHost(15), a, toHost(2), b))}},
		{"a host, with no hops", three(), of(0, "hi", toHost(5), a), []api.Out{comesTo(5, of(0, "hi", toHost(5), a))}},
		{"a host, with no table", nil, of(0, "hi", toHost(5)), []api.Out{comesTo(5, of(0, "hi", toHost(5)))}},
		{"no hops, but triggers", three(), of(0, "hi", a), []api.Out{isDead(api.ErrHops)}},
		{"no hops, but other entries", three(), of(0, "hi", c, toHost(3)), []api.Out{isDead(api.ErrHops)}},
		{"no hops, and none", three(), of(0, "hi", c), []api.Out{isDead(api.ErrHops)}},
		{"no hops, and no table", nil, of(0, "", a), []api.Out{isDead(api.ErrHops)}},
		{"the last hop", three(), of(1, "hi", b), []api.Out{goesOn(of(0, "hi", a), trig(place(90), a, 7))}},
		{"three triggers, whatever their time is", three(), of(64, "hi", a), []api.Out{
			goesOn(of(63, "hi", toId(place(70))), trig(place(50), toId(place(70)), 40)),
			goesOn(of(63, "hi", toHost(1)), trig(place(50), toHost(1), 0)),
			goesOn(of(63, "hi", toHost(2)), trig(place(50), toHost(2), 1<<40)),
		}},
		{"triggers ahead of other entries", three(), of(2, "hi", b, c, toHost(3), a), []api.Out{goesOn(of(1, "hi", a, c, toHost(3), a), trig(place(90), a, 7))}},
		{"a trigger to a host, ahead of other entries", three()[:1], of(2, "", toId(place(10)), a), []api.Out{goesOn(of(1, "", toHost(9), a), trig(place(10), toHost(9), 100))}},
		{"no trigger, but another entry", three(), of(5, "hi", c, b), []api.Out{goesOn(of(4, "hi", b), api.Trigger{})}},
		{"no trigger, but a host behind", three(), of(1, "hi", c, toHost(0)), []api.Out{goesOn(of(0, "hi", toHost(0)), api.Trigger{})}},
		{"no trigger, but three others", nil, of(64, "", a, a, toHost(1), c), []api.Out{goesOn(of(63, "", a, toHost(1), c), api.Trigger{})}},
		{"none", three(), of(5, "hi", c), []api.Out{isDead(api.ErrNone)}},
		{"none, on the last hop", nil, of(1, "", c), []api.Out{isDead(api.ErrNone)}},
		{"one that leads to itself", []api.Trigger{trig(place(50), a, 1)}, of(3, "", a), []api.Out{goesOn(of(2, "", a), trig(place(50), a, 1))}},
		{"the identifier that is zero", []api.Trigger{trig(api.Id{}, toHost(0), 0)}, of(3, "", toId(api.Id{})), []api.Out{goesOn(of(2, "", toHost(0)), trig(api.Id{}, toHost(0), 0))}},
	} {
		if got, err := Step(x.t, x.p); err != api.OK || !reflect.DeepEqual(got, x.want) {
			t.Errorf("%s: %+v, %d, want %+v", x.what, got, err, x.want)
		}
	}
}

// TestStepByTheLikest has identifiers with just so many bits in common with the packet's.
func TestStepByTheLikest(t *testing.T) {
	at := func(bit int) api.Id {
		a := place(50)
		a[bit/8] ^= 128 >> (bit % 8)
		return a
	}
	on := func(bit int) api.Out {
		return goesOn(of(2, "x", toHost(bit%16)), trig(at(bit), toHost(bit%16), bit))
	}
	table := func(bits ...int) []api.Trigger {
		var l []api.Trigger
		for _, bit := range bits {
			l = append(l, trig(at(bit), toHost(bit%16), bit))
		}
		slices.SortFunc(l, func(a, b api.Trigger) int { return bytes.Compare(a.Id[:], b.Id[:]) })
		return l
	}
	for _, c := range []struct {
		bits []int
		want api.Out
	}{
		{[]int{127}, isDead(api.ErrNone)},
		{[]int{0, 1, 100, 126, 127}, isDead(api.ErrNone)},
		{[]int{128}, on(128)},
		{[]int{127, 128}, on(128)},
		{[]int{128, 129, 130}, on(130)},
		{[]int{255, 200, 128, 0}, on(255)},
		{[]int{200, 199, 201}, on(201)},
	} {
		if got, err := Step(table(c.bits...), of(3, "x", toId(place(50)))); err != api.OK || !reflect.DeepEqual(got, []api.Out{c.want}) {
			t.Errorf("%v: %+v, %d", c.bits, got, err)
		}
	}
}

func TestStepOfWhatMayNotBe(t *testing.T) {
	for _, l := range wrongTables() {
		for _, p := range append(rightPackets(), wrongPackets()...) {
			if got, err := Step(l, p); err != api.ErrArg || len(got) > 0 {
				t.Fatalf("%+v, %d of %+v", got, err, p)
			}
		}
	}
	for _, l := range rightTables() {
		for _, p := range wrongPackets() {
			if got, err := Step(l, p); err != api.ErrArg || len(got) > 0 {
				t.Errorf("%+v, %d of %+v", got, err, p)
			}
		}
	}
}

// common counts two identifiers' bits from the first one on that are alike, one by one.
func common(a, b api.Id) int {
	for i := range 256 {
		if (a[i/8]^b[i/8])>>(7-i%8)&1 > 0 {
			return i
		}
	}
	return 256
}

// stepped is a second way to what becomes of a packet.
func stepped(t []api.Trigger, p api.Packet) []api.Out {
	first, rest := p.Stack[0], slices.Clone(p.Stack[1:])
	switch {
	case first.Kind == api.EHost:
		return []api.Out{comesTo(first.Host, p)}
	case p.Hops < 1:
		return []api.Out{isDead(api.ErrHops)}
	}
	byBits := map[int][]api.Trigger{}
	for _, x := range t {
		byBits[common(x.Id, first.Id)] = append(byBits[common(x.Id, first.Id)], x)
	}
	for bits := 256; bits >= 128; bits-- {
		var l []api.Out
		for _, x := range byBits[bits] {
			if x.Id == byBits[bits][0].Id {
				l = append(l, goesOn(of(p.Hops-1, p.Data, append([]api.Entry{x.Target}, rest...)...), x))
			}
		}
		if len(l) > 0 {
			return l
		}
	}
	if len(rest) > 0 {
		return []api.Out{goesOn(of(p.Hops-1, p.Data, rest...), api.Trigger{})}
	}
	return []api.Out{isDead(api.ErrNone)}
}

// chanceId is one of few identifiers, some of which are near one another.
func chanceId(chance *rand.Rand) api.Id {
	a := place(byte(chance.Intn(3)))
	switch chance.Intn(3) {
	case 0:
		a[16+chance.Intn(16)] ^= 1 << chance.Intn(8)
	case 1:
		a[15+chance.Intn(2)] ^= 1 << chance.Intn(8)
	}
	return a
}

func chanceEntry(chance *rand.Rand) api.Entry {
	if chance.Intn(4) == 0 {
		return toHost(chance.Intn(16))
	}
	return toId(chanceId(chance))
}

func chanceTable(chance *rand.Rand) []api.Trigger {
	var l []api.Trigger
	for range chance.Intn(33) {
		a := chanceId(chance)
		for range 1 + chance.Intn(3) {
			l = append(l, trig(a, chanceEntry(chance), chance.Intn(100)))
		}
	}
	order := func(a, b api.Trigger) int {
		key := func(x api.Trigger) []byte {
			return slices.Concat(x.Id[:], []byte{byte(x.Target.Kind)}, x.Target.Id[:], []byte{byte(x.Target.Host)})
		}
		return bytes.Compare(key(a), key(b))
	}
	slices.SortStableFunc(l, order)
	l = slices.CompactFunc(l, func(a, b api.Trigger) bool { return order(a, b) == 0 })
	return l[:min(len(l), 32)]
}

func chancePacket(chance *rand.Rand) api.Packet {
	p := of(chance.Intn(65), strings.Repeat("d", chance.Intn(65)))
	if chance.Intn(5) == 0 {
		p.Hops = 0
	}
	for range 1 + chance.Intn(4) {
		p.Stack = append(p.Stack, chanceEntry(chance))
	}
	return p
}

func TestStepByChance(t *testing.T) {
	chance := rand.New(rand.NewSource(1))
	kinds := map[int]int{}
	whys := map[api.Errno]int{}
	for range 30000 {
		l, p := chanceTable(chance), chancePacket(chance)
		got, err := Step(l, p)
		if want := stepped(l, p); err != api.OK || !reflect.DeepEqual(got, want) {
			t.Fatalf("%+v of %+v:\n%+v, %d, want\n%+v", p, l, got, err, want)
		}
		mustFollow(t, l, p, got)
		kinds[got[0].Kind]++
		whys[got[0].Why]++
	}
	if kinds[api.OHost] < 3000 || kinds[api.OOn] < 3000 || whys[api.ErrHops] < 1000 || whys[api.ErrNone] < 300 {
		t.Errorf("kinds %v, whys %v", kinds, whys)
	}
}

// mustFollow asks what follows of what becomes of a packet.
func mustFollow(t *testing.T, l []api.Trigger, p api.Packet, outs []api.Out) {
	t.Helper()
	if len(outs) < 1 || len(outs) > max(len(l), 1) {
		t.Fatalf("%d become of one, by %d triggers", len(outs), len(l))
	}
	for _, x := range outs {
		if x.Kind == api.OOn && (!Right(x.Packet) || x.Packet.Data != p.Data || x.Packet.Hops != p.Hops-1 || len(x.Packet.Stack) > len(p.Stack) || x.Host != 0 || x.Why != api.OK) {
			t.Fatalf("of %+v goes on: %+v", p, x)
		}
	}
}

func TestStepOfAllThatMayBe(t *testing.T) {
	for _, l := range rightTables() {
		for _, p := range rightPackets() {
			got, err := Step(l, p)
			if want := stepped(l, p); err != api.OK || !reflect.DeepEqual(got, want) {
				t.Errorf("%+v of %+v: %+v, %d", p, l, got, err)
			}
			mustFollow(t, l, p, got)
		}
	}
	if got, _ := Step(full(), of(3, "x", toId(place(50)), toHost(1))); len(got) != 32 {
		t.Errorf("by 32 triggers %d go on", len(got))
	}
}

func TestCallsChangeNothing(t *testing.T) {
	for _, l := range append(rightTables(), wrongTables()...) {
		for _, p := range append(rightPackets(), wrongPackets()...) {
			wasTable, wasStack := slices.Clone(l), slices.Clone(p.Stack)
			Right(p)
			Same(p, p)
			Step(l, p)
			if !slices.Equal(l, wasTable) || !slices.Equal(p.Stack, wasStack) {
				t.Fatalf("%+v is changed", p)
			}
		}
	}
}

// spoil writes over a stack, and over all that there is room for behind it.
func spoil(l []api.Entry) {
	l = l[:cap(l)]
	for i := range l {
		l[i] = toHost(13)
	}
}

func TestAnswersAreNewMemory(t *testing.T) {
	chance := rand.New(rand.NewSource(2))
	for range 3000 {
		l, p := chanceTable(chance), chancePacket(chance)
		room := append(make([]api.Entry, 0, 12), p.Stack...)
		wasTable, was := slices.Clone(l), slices.Clone(room[:cap(room)])
		p.Stack = room
		outs, _ := Step(l, p)
		want, again := stepped(l, p), slices.Clone(outs)
		for i := range outs {
			if !reflect.DeepEqual(outs[i], want[i]) {
				t.Fatalf("two stacks of one answer share memory: %+v", want)
			}
			spoil(outs[i].Packet.Stack)
			again[i] = want[i]
		}
		clear(outs[:cap(outs)])
		if !slices.Equal(room[:cap(room)], was) || !slices.Equal(l, wasTable) {
			t.Fatalf("an answer shares memory with an argument: %+v", want)
		}
		if other, _ := Step(l, p); !reflect.DeepEqual(other, again) {
			t.Fatalf("the same arguments, another answer: %+v", other)
		}
	}
}

func TestANilTableCountsAsAnEmptyOne(t *testing.T) {
	for _, p := range append(rightPackets(), wrongPackets()...) {
		one, oneErr := Step(nil, p)
		two, twoErr := Step([]api.Trigger{}, p)
		if oneErr != twoErr || !reflect.DeepEqual(one, two) {
			t.Errorf("unlike at no table: %+v", p)
		}
	}
}
