package wire

import (
	"encoding/binary"
	"fmt"
	"math"
	"math/rand"
	"slices"
	"strings"
	"testing"

	"posthouse/api"
)

const maxTick = 1 << 40

func filled(b byte) api.Id {
	var a api.Id
	for i := range a {
		a[i] = b
	}
	return a
}

// rising has the bytes 1 to 32.
func rising() api.Id {
	var a api.Id
	for i := range a {
		a[i] = byte(i + 1)
	}
	return a
}

func id(a api.Id) api.Entry { return api.Entry{Kind: api.EId, Id: a} }

func host(n int) api.Entry { return api.Entry{Kind: api.EHost, Host: n} }

func stackOf(l ...api.Entry) []api.Entry { return l }

// hasByHand is what each kind has, in the order of the bytes: I Id, T Target, S Stack, N N, O Nonce, D Data.
var hasByHand = [...]string{1: "SND", 2: "ITN", 3: "ITO", 4: "ITNO", 5: "IT", 6: "ITO", 7: "I", 8: "IN", 9: "IN", 10: "IN"}

const allFields = "ITSNOD"

// set puts a field of one message into another one.
func set(m *api.Msg, field rune, from api.Msg) {
	switch field {
	case 'I':
		m.Id = from.Id
	case 'T':
		m.Target = from.Target
	case 'S':
		m.Stack = from.Stack
	case 'N':
		m.N = from.N
	case 'O':
		m.Nonce = from.Nonce
	case 'D':
		m.Data = from.Data
	}
}

// rightFields are, of each field, messages in which just that is filled, as it may be.
func rightFields(field rune) []api.Msg {
	var l []api.Msg
	switch field {
	case 'I':
		for _, a := range []api.Id{{}, filled(255), rising(), {0: 1}, {31: 1}} {
			l = append(l, api.Msg{Id: a})
		}
	case 'T':
		for _, e := range stackOf(id(api.Id{}), id(rising()), id(api.Id{31: 1}), host(0), host(1), host(15)) {
			l = append(l, api.Msg{Target: e})
		}
	case 'S':
		one, two := id(rising()), host(3)
		for _, s := range [][]api.Entry{{one}, {two}, {host(0)}, {id(api.Id{})}, {one, two}, {two, one}, {two, two, one}, {one, one, one, one}, {two, two, two, two}} {
			l = append(l, api.Msg{Stack: s})
		}
	case 'N':
		for _, n := range []int{0, 1, 2, 64, 255, 256, 0x0102030405, maxTick - 1, maxTick} {
			l = append(l, api.Msg{N: n})
		}
	case 'O':
		for _, s := range []string{"0123456789abcdef", strings.Repeat("\x00", 16), strings.Repeat("\xff", 16), "\x00123456789abcdef", "0123456789abcde\x00"} {
			l = append(l, api.Msg{Nonce: s})
		}
	case 'D':
		for _, s := range []string{"", "\x00", "a", "letter", "\xff\xfe", strings.Repeat("a", 63), strings.Repeat("a", 64), strings.Repeat("\x00", 64)} {
			l = append(l, api.Msg{Data: s})
		}
	}
	return l
}

// wrongFields are, of each field, messages in which just that is filled, as it may not be where a message has it.
func wrongFields(field rune) []api.Msg {
	var l []api.Msg
	switch field {
	case 'T':
		for _, e := range wrongEntries() {
			l = append(l, api.Msg{Target: e})
		}
	case 'S':
		l = append(l, api.Msg{}, api.Msg{Stack: []api.Entry{}}, api.Msg{Stack: slices.Repeat(stackOf(host(3)), 5)}, api.Msg{Stack: slices.Repeat(stackOf(id(rising())), 257)})
		for _, e := range wrongEntries() {
			l = append(l, api.Msg{Stack: stackOf(e)}, api.Msg{Stack: stackOf(host(3), e)}, api.Msg{Stack: stackOf(e, host(3), host(3), host(3))})
		}
	case 'N':
		for _, n := range []int{-1, -maxTick, maxTick + 1, 2 * maxTick, math.MaxInt, math.MinInt} {
			l = append(l, api.Msg{N: n})
		}
	case 'O':
		for _, n := range []int{0, 1, 15, 17, 32, 16 + 256, 1000} {
			l = append(l, api.Msg{Nonce: strings.Repeat("n", n)})
		}
	case 'D':
		for _, n := range []int{65, 66, 128, 256, 256 + 64, 1000} {
			l = append(l, api.Msg{Data: strings.Repeat("d", n)})
		}
	}
	return l
}

func wrongEntries() []api.Entry {
	return stackOf(
		api.Entry{}, api.Entry{Kind: 3}, api.Entry{Kind: -1}, api.Entry{Kind: 257}, api.Entry{Host: 3}, api.Entry{Id: rising()},
		api.Entry{Kind: api.EId, Host: 1}, api.Entry{Kind: api.EHost, Id: api.Id{31: 1}}, host(16), host(-1), host(256),
	)
}

// wrongKinds are numbers beside 1 to 10.
func wrongKinds() []int {
	return []int{0, 11, 12, -1, -7, 255, 256, 257, 256 + 7, 1<<32 + 7, math.MaxInt, math.MinInt}
}

// plain is a message of a kind, each of whose fields is filled, as it may be.
func plain(kind int) api.Msg {
	full := api.Msg{
		Id: rising(), Target: host(3), Stack: stackOf(id(rising()), host(7)),
		N: 0x0102030405, Nonce: "0123456789abcdef", Data: "letter",
	}
	m := api.Msg{Kind: kind}
	for _, field := range hasByHand[kind] {
		set(&m, field, full)
	}
	return m
}

// rightMessages are, of each kind, all that come of one or two fields other than plain's.
func rightMessages() []api.Msg {
	var l []api.Msg
	for kind := 1; kind <= 10; kind++ {
		l = append(l, plain(kind))
		for i, one := range hasByHand[kind] {
			for _, x := range rightFields(one) {
				m := plain(kind)
				set(&m, one, x)
				l = append(l, m)
				for _, two := range hasByHand[kind][:i] {
					for _, y := range rightFields(two) {
						both := m
						set(&both, two, y)
						l = append(l, both)
					}
				}
			}
		}
	}
	return l
}

// wrongMessages are of no kind, have a field that is not their kind's, or one that may not be.
func wrongMessages() []api.Msg {
	l := []api.Msg{{}}
	for _, kind := range wrongKinds() {
		for like := 1; like <= 10; like++ {
			m := plain(like)
			m.Kind = kind
			l = append(l, m)
		}
		l = append(l, api.Msg{Kind: kind})
	}
	for kind := 1; kind <= 10; kind++ {
		for _, field := range allFields {
			fillings := wrongFields(field)
			if !strings.ContainsRune(hasByHand[kind], field) {
				fillings = append(fillings, rightFields(field)...)
			}
			for _, x := range fillings {
				m := plain(kind)
				set(&m, field, x)
				if fmt.Sprint(m) != fmt.Sprint(plain(kind)) {
					l = append(l, m)
				}
			}
		}
	}
	return l
}

// entryByHand is an entry's bytes as the chapter of stacks tells them.
func entryByHand(e api.Entry) string {
	if e.Kind == 1 {
		return "\x01" + string(e.Id[:])
	}
	return "\x02" + string([]byte{byte(e.Host)})
}

// bytesByHand is a message's bytes as the chapter tells them.
func bytesByHand(m api.Msg) string {
	s := string([]byte{byte(m.Kind)})
	for _, field := range hasByHand[m.Kind] {
		switch field {
		case 'I':
			s += string(m.Id[:])
		case 'T':
			s += "\x01" + entryByHand(m.Target)
		case 'S':
			s += string([]byte{byte(len(m.Stack))})
			for _, e := range m.Stack {
				s += entryByHand(e)
			}
		case 'N':
			s += string(binary.LittleEndian.AppendUint64(nil, uint64(m.N)))
		case 'O':
			s += m.Nonce
		case 'D':
			s += m.Data
		}
	}
	return s
}

// same tells by hand whether two messages have the same fields.
func same(a, b api.Msg) bool {
	return slices.Equal(a.Stack, b.Stack) && a.Kind == b.Kind && a.Id == b.Id && a.Target == b.Target && a.N == b.N && a.Nonce == b.Nonce && a.Data == b.Data
}

func refused(t *testing.T, s string) {
	t.Helper()
	if m, err := Parse(s); !same(m, api.Msg{}) || err != api.ErrSyntax {
		t.Errorf("%q: %v, %d", s, m, err)
	}
}

func parsed(t *testing.T, s string, want api.Msg) {
	t.Helper()
	if m, err := Parse(s); !same(m, want) || err != api.OK {
		t.Errorf("%q: %v, %d; want %v", s, m, err, want)
	}
}

func TestMessagesThatMayBe(t *testing.T) {
	for _, m := range rightMessages() {
		if !Right(m) {
			t.Errorf("%v may be", m)
		}
	}
}

func TestMessagesThatMayNotBe(t *testing.T) {
	for _, m := range wrongMessages() {
		if Right(m) {
			t.Errorf("%v may not be", m)
		}
	}
}

func TestAFieldThatAKindHasNotIsEmpty(t *testing.T) {
	// Each fills one field, as little as it can be; of the kinds that have that field, plain has it already.
	for _, x := range []struct {
		field rune
		m     api.Msg
	}{
		{'I', api.Msg{Id: api.Id{0: 1}}}, {'I', api.Msg{Id: api.Id{31: 1}}},
		{'T', api.Msg{Target: host(0)}}, {'T', api.Msg{Target: api.Entry{Kind: 3}}}, {'T', api.Msg{Target: api.Entry{Host: 1}}}, {'T', api.Msg{Target: api.Entry{Id: api.Id{31: 1}}}},
		{'S', api.Msg{Stack: stackOf(host(0))}}, {'S', api.Msg{Stack: stackOf(api.Entry{})}},
		{'N', api.Msg{N: 1}}, {'N', api.Msg{N: -1}},
		{'O', api.Msg{Nonce: "\x00"}}, {'O', api.Msg{Nonce: "0123456789abcdef"}},
		{'D', api.Msg{Data: "\x00"}},
	} {
		for kind := 1; kind <= 10; kind++ {
			if strings.ContainsRune(hasByHand[kind], x.field) {
				continue
			}
			m := plain(kind)
			set(&m, x.field, x.m)
			if Right(m) {
				t.Errorf("%v may not be", m)
			}
			if s, err := Text(m); s != "" || err != api.ErrArg {
				t.Errorf("%v: %q, %d", m, s, err)
			}
		}
	}
}

func TestAnEmptyStackCountsAsNone(t *testing.T) {
	for kind := 2; kind <= 10; kind++ {
		m := plain(kind)
		m.Stack = []api.Entry{}
		if !Right(m) || !Like(m, plain(kind)) || !Like(plain(kind), m) {
			t.Errorf("%v may be", m)
		}
		if s, err := Text(m); s != bytesByHand(m) || err != api.OK {
			t.Errorf("%v: %q, %d", m, s, err)
		}
	}
	for _, s := range [][]api.Entry{nil, {}} {
		m := plain(api.MData)
		m.Stack = s
		if Right(m) {
			t.Errorf("%v may not be", m)
		}
	}
}

func TestTextOfTheExample(t *testing.T) {
	a := rising()
	m := api.Msg{Kind: api.MPush, Id: a}
	if s, err := Text(m); s != "\x07"+string(a[:]) || err != api.OK {
		t.Errorf("%q, %d", s, err)
	}
	parsed(t, "\x07"+string(a[:]), m)
}

func TestTextOfEachKind(t *testing.T) {
	rise := rising()
	a, five, nonce := string(rise[:]), "\x05\x04\x03\x02\x01\x00\x00\x00", "0123456789abcdef"
	for kind, want := range []string{
		1:  "\x01" + "\x02\x01" + a + "\x02\x07" + five + "letter",
		2:  "\x02" + a + "\x01\x02\x03" + five,
		3:  "\x03" + a + "\x01\x02\x03" + nonce,
		4:  "\x04" + a + "\x01\x02\x03" + five + nonce,
		5:  "\x05" + a + "\x01\x02\x03",
		6:  "\x06" + a + "\x01\x02\x03" + nonce,
		7:  "\x07" + a,
		8:  "\x08" + a + five,
		9:  "\x09" + a + five,
		10: "\x0a" + a + five,
	} {
		if kind == 0 {
			continue
		}
		if s, err := Text(plain(kind)); s != want || err != api.OK {
			t.Errorf("kind %d: %q, %d", kind, s, err)
		}
		parsed(t, want, plain(kind))
	}
}

func TestTextOfAllThatMayBe(t *testing.T) {
	for _, m := range rightMessages() {
		if s, err := Text(m); s != bytesByHand(m) || err != api.OK {
			t.Fatalf("%v: %q, %d", m, s, err)
		}
	}
}

func TestTextOfMessagesThatMayNotBe(t *testing.T) {
	for _, m := range wrongMessages() {
		if s, err := Text(m); s != "" || err != api.ErrArg {
			t.Errorf("%v: %q, %d", m, s, err)
		}
	}
}

func TestLikeByEveryField(t *testing.T) {
	var all []api.Msg
	for _, field := range allFields {
		for _, x := range append(rightFields(field), wrongFields(field)...) {
			if !same(x, api.Msg{}) {
				all = append(all, x)
			}
		}
	}
	all = append(all, api.Msg{})
	for kind := -1; kind <= 12; kind++ {
		if kind != 0 {
			all = append(all, api.Msg{Kind: kind})
		}
	}
	for i, a := range all {
		for j, b := range all {
			if got, want := Like(a, b), i == j; got != want {
				t.Fatalf("%v and %v: %v", a, b, got)
			}
		}
	}
	for kind := 1; kind <= 10; kind++ {
		if !Like(plain(kind), plain(kind)) {
			t.Errorf("kind %d is like itself", kind)
		}
		for _, m := range wrongMessages() {
			if got, want := Like(m, plain(kind)), same(m, plain(kind)); got != want {
				t.Errorf("%v and %v: %v", m, plain(kind), got)
			}
		}
	}
}

func TestLikeByEachByte(t *testing.T) {
	full := api.Msg{Kind: 4, Id: rising(), Target: id(rising()), Stack: stackOf(id(rising()), host(1)), N: 5, Nonce: strings.Repeat("n", 16), Data: strings.Repeat("d", 64)}
	for i := range 32 {
		a, b, c := full, full, full
		a.Id[i] ^= 1
		b.Target.Id[i] ^= 1
		c.Stack = slices.Clone(full.Stack)
		c.Stack[0].Id[i] ^= 1
		for _, m := range []api.Msg{a, b, c} {
			if Like(m, full) || Like(full, m) || !Like(m, m) {
				t.Errorf("%v and %v", m, full)
			}
		}
	}
	for _, change := range []func(m *api.Msg){
		func(m *api.Msg) { m.Stack = m.Stack[:1] },
		func(m *api.Msg) { m.Stack = stackOf(host(1), id(rising())) },
		func(m *api.Msg) { m.Stack = append(slices.Clone(m.Stack), host(1)) },
		func(m *api.Msg) { m.Nonce = m.Nonce[1:] },
		func(m *api.Msg) { m.Nonce = m.Nonce[1:] + "m" },
		func(m *api.Msg) { m.Data = m.Data[1:] },
		func(m *api.Msg) { m.Data = "e" + m.Data[1:] },
		func(m *api.Msg) { m.N += 1 << 32 },
	} {
		m := full
		change(&m)
		if Like(m, full) || Like(full, m) || !Like(m, m) {
			t.Errorf("%v and %v", m, full)
		}
	}
}

func TestParseOfNoBytes(t *testing.T) { refused(t, "") }

func TestParseOfEachKindByte(t *testing.T) {
	for b := range 256 {
		for like := 1; like <= 10; like++ {
			if b >= 1 && b <= 10 {
				continue
			}
			refused(t, string([]byte{byte(b)}))
			refused(t, string([]byte{byte(b)})+bytesByHand(plain(like))[1:])
		}
	}
	// The bytes of one kind are another one's only where both have the same fields.
	for like := 1; like <= 10; like++ {
		for b := 2; b <= 10; b++ {
			s := string([]byte{byte(b)}) + bytesByHand(plain(like))[1:]
			if hasByHand[b] == hasByHand[like] {
				m := plain(like)
				m.Kind = b
				parsed(t, s, m)
			} else {
				refused(t, s)
			}
		}
	}
}

func TestParseOfTextsThatAreCutOff(t *testing.T) {
	for _, m := range rightMessages() {
		s := bytesByHand(m)
		for n := range len(s) {
			if n >= len(s)-len(m.Data) {
				short := m
				short.Data = m.Data[:n-(len(s)-len(m.Data))]
				parsed(t, s[:n], short)
			} else {
				refused(t, s[:n])
			}
		}
	}
}

func TestParseOfTextsWithMoreBehind(t *testing.T) {
	for _, m := range rightMessages() {
		for _, more := range []string{"\x00", "\x01", " ", "\xff", "more", strings.Repeat("\x00", 300), bytesByHand(m)} {
			s := bytesByHand(m) + more
			if m.Kind == api.MData && len(m.Data)+len(more) <= 64 {
				long := m
				long.Data += more
				parsed(t, s, long)
			} else {
				refused(t, s)
			}
		}
	}
}

func TestParseOfTooMuchData(t *testing.T) {
	m := plain(api.MData)
	m.Data = ""
	for n := range 70 {
		s := bytesByHand(m) + strings.Repeat("d", n)
		if n > 64 {
			refused(t, s)
			continue
		}
		long := m
		long.Data = strings.Repeat("d", n)
		parsed(t, s, long)
	}
	refused(t, bytesByHand(m)+strings.Repeat("d", 1<<20))
}

func TestParseOfTargets(t *testing.T) {
	rise := rising()
	a := string(rise[:])
	for kind := 2; kind <= 6; kind++ {
		rest := bytesByHand(plain(kind))[1+32+3:]
		head := string([]byte{byte(kind)}) + a
		for b := range 256 {
			m := plain(kind)
			m.Target = host(b)
			if s := head + "\x01\x02" + string([]byte{byte(b)}) + rest; b < 16 {
				parsed(t, s, m)
			} else {
				refused(t, s)
			}
			if b != 1 {
				refused(t, head+string([]byte{byte(b)})+"\x02\x03"+rest)
				refused(t, head+string([]byte{byte(b)})+strings.Repeat("\x02\x03", b)+rest)
			}
			if b != 1 && b != 2 {
				refused(t, head+"\x01"+string([]byte{byte(b)})+"\x03"+rest)
				refused(t, head+"\x01"+string([]byte{byte(b)})+a+rest)
			}
		}
		m := plain(kind)
		m.Target = id(filled(9))
		parsed(t, head+"\x01\x01"+strings.Repeat("\x09", 32)+rest, m)
		refused(t, head+"\x02\x01"+a+"\x01"+a+rest)
		refused(t, head+"\x02\x03"+rest)
		refused(t, head+rest)
	}
}

func TestParseOfStacks(t *testing.T) {
	rest := strings.Repeat("\x00", 8) + "letter"
	for b := range 256 {
		for n := range 7 {
			s := "\x01" + string([]byte{byte(b)}) + strings.Repeat("\x02\x07", n) + rest
			if b >= 1 && b <= 4 && n == b {
				parsed(t, s, api.Msg{Kind: 1, Stack: slices.Repeat(stackOf(host(7)), n), Data: "letter"})
			} else if b < 1 || b > 4 || n < b {
				refused(t, s)
			}
		}
		if b > 15 {
			refused(t, "\x01\x01\x02"+string([]byte{byte(b)})+rest)
			refused(t, "\x01\x02\x02\x03\x02"+string([]byte{byte(b)})+rest)
		}
	}
	refused(t, "\x01"+rest)
}

func TestParseOfNumbers(t *testing.T) {
	for _, kind := range []int{1, 2, 4, 8, 9, 10} {
		m := plain(kind)
		m.Data, m.N = "", 0
		s := []byte(bytesByHand(m))
		at := len(s) - len(m.Nonce) - 8
		for _, n := range []uint64{0, 1, 255, 256, 1 << 32, 0x0102030405, maxTick - 1, maxTick, maxTick + 1, maxTick + 256, 2 * maxTick, 1 << 48, 1 << 56, 1 << 62, 1 << 63, 1<<63 + 5, math.MaxInt64, math.MaxUint64} {
			binary.LittleEndian.PutUint64(s[at:], n)
			if n > maxTick {
				refused(t, string(s))
				continue
			}
			m.N = int(n)
			parsed(t, string(s), m)
		}
	}
}

// parseByHand takes a text apart as the chapter tells it, without the package's or stack's help.
func parseByHand(s string) (m api.Msg, is bool) {
	fits := true
	need := func(n int) string {
		if len(s) < n {
			fits, s = false, ""
			return strings.Repeat("\x00", n)
		}
		taken := s[:n]
		s = s[n:]
		return taken
	}
	entry := func() api.Entry {
		switch need(1) {
		case "\x01":
			return id(api.Id([]byte(need(32))))
		case "\x02":
			if b := need(1)[0]; b < 16 {
				return host(int(b))
			}
		}
		fits = false
		return api.Entry{}
	}
	m.Kind = int(need(1)[0])
	if m.Kind < 1 || m.Kind > 10 {
		return api.Msg{}, false
	}
	for _, field := range hasByHand[m.Kind] {
		switch field {
		case 'I':
			m.Id = api.Id([]byte(need(32)))
		case 'T':
			fits = need(1) == "\x01" && fits
			m.Target = entry()
		case 'S':
			n := int(need(1)[0])
			fits = fits && n >= 1 && n <= 4
			for range min(n, 4) {
				m.Stack = append(m.Stack, entry())
			}
		case 'N':
			n := binary.LittleEndian.Uint64([]byte(need(8)))
			fits = fits && n <= maxTick
			m.N = int(n)
		case 'O':
			m.Nonce = need(16)
		case 'D':
			fits = fits && len(s) <= 64
			m.Data, s = s, ""
		}
	}
	if !fits || s != "" {
		return api.Msg{}, false
	}
	return m, true
}

func TestParseOfTextsWithFaults(t *testing.T) {
	rolls := rand.New(rand.NewSource(5))
	all := rightMessages()
	seen := map[bool]int{}
	for range 100000 {
		s := []byte(bytesByHand(all[rolls.Intn(len(all))]))
		for range rolls.Intn(3) {
			s[rolls.Intn(len(s))] = byte(rolls.Intn(20))
		}
		switch at := rolls.Intn(len(s)); rolls.Intn(6) {
		case 0:
			s = slices.Delete(s, at, at+1)
		case 1:
			s = slices.Insert(s, at, byte(rolls.Intn(4)))
		case 2:
			s = append(s, s[at:]...)
		}
		m, err := Parse(string(s))
		want, is := parseByHand(string(s))
		if !same(m, want) || is && err != api.OK || !is && err != api.ErrSyntax {
			t.Fatalf("%q: %v, %d; want %v, %v", s, m, err, want, is)
		}
		if is && !Right(m) {
			t.Fatalf("%q: %v may not be", s, m)
		}
		seen[is]++
	}
	if seen[true] < 10000 || seen[false] < 10000 {
		t.Errorf("messages and others: %v", seen)
	}
}

func TestParseEndsAtAllTexts(t *testing.T) {
	rolls := rand.New(rand.NewSource(50))
	for range 50000 {
		s := make([]byte, rolls.Intn(120))
		for i := range s {
			s[i] = byte(rolls.Intn(256))
		}
		if len(s) > 0 {
			s[0] = byte(rolls.Intn(12))
		}
		m, err := Parse(string(s))
		want, is := parseByHand(string(s))
		if !same(m, want) || is != (err == api.OK) || !is && err != api.ErrSyntax {
			t.Fatalf("%q: %v, %d; want %v, %v", s, m, err, want, is)
		}
	}
}

func TestWhatIsWrittenIsParsed(t *testing.T) {
	for _, m := range rightMessages() {
		s, err := Text(m)
		if err != api.OK {
			t.Fatalf("%v: %d", m, err)
		}
		if got, err := Parse(s); !Like(got, m) || !same(got, m) || err != api.OK {
			t.Fatalf("%v: %v, %d", m, got, err)
		}
	}
}

func TestWhatIsParsedIsWritten(t *testing.T) {
	rolls := rand.New(rand.NewSource(500))
	all := rightMessages()
	seen := 0
	for range 50000 {
		s := []byte(bytesByHand(all[rolls.Intn(len(all))]))
		s[rolls.Intn(len(s))] = byte(rolls.Intn(256))
		m, err := Parse(string(s))
		if err != api.OK {
			continue
		}
		seen++
		if got, err := Text(m); got != string(s) || err != api.OK {
			t.Fatalf("%q: %v, %q, %d", s, m, got, err)
		}
	}
	if seen < 5000 {
		t.Errorf("%d texts were parsed", seen)
	}
}

func TestUnlikeMessagesHaveUnlikeBytes(t *testing.T) {
	of := map[string]api.Msg{}
	for _, m := range rightMessages() {
		s, err := Text(m)
		if err != api.OK {
			t.Fatalf("%v: %d", m, err)
		}
		if other, is := of[s]; is != (is && Like(other, m)) {
			t.Fatalf("%v and %v have the same bytes", m, other)
		}
		of[s] = m
	}
	if len(of) < 300 {
		t.Errorf("%d texts only", len(of))
	}
}

func TestCallsChangeNothing(t *testing.T) {
	for _, m := range append(rightMessages(), wrongMessages()...) {
		was := m
		was.Stack = slices.Clone(m.Stack)
		Right(m)
		Text(m)
		Like(m, m)
		if !same(m, was) {
			t.Fatalf("%v was %v", m, was)
		}
	}
}

func TestAnswersAreNewMemory(t *testing.T) {
	s := bytesByHand(plain(api.MData))
	one, _ := Parse(s)
	one.Stack[0], one.Stack[1] = host(9), host(9)
	parsed(t, s, plain(api.MData))
}
