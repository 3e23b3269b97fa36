package stack

import (
	"fmt"
	"math"
	"math/rand"
	"slices"
	"strings"
	"testing"

	"posthouse/api"
)

func filled(b byte) api.Id {
	var a api.Id
	for i := range a {
		a[i] = b
	}
	return a
}

// rising has the bytes 0 to 31.
func rising() api.Id {
	var a api.Id
	for i := range a {
		a[i] = byte(i)
	}
	return a
}

func id(a api.Id) api.Entry { return api.Entry{Kind: api.EId, Id: a} }

func host(n int) api.Entry { return api.Entry{Kind: api.EHost, Host: n} }

func stackOf(l ...api.Entry) []api.Entry { return l }

// rightEntries are identifiers at their ends and hosts at theirs.
func rightEntries() []api.Entry {
	return stackOf(
		id(api.Id{}), id(filled(255)), id(rising()), id(api.Id{0: 1}), id(api.Id{31: 1}), id(filled(2)),
		host(0), host(1), host(2), host(3), host(14), host(15),
	)
}

// wrongEntries are of other kinds, hosts outside 0 to 15, and entries with a field of the other kind.
func wrongEntries() []api.Entry {
	return stackOf(
		api.Entry{},
		api.Entry{Kind: 0, Host: 3},
		api.Entry{Kind: 0, Id: rising()},
		api.Entry{Kind: 3},
		api.Entry{Kind: -1},
		api.Entry{Kind: 257},
		api.Entry{Kind: 258},
		api.Entry{Kind: math.MaxInt},
		api.Entry{Kind: math.MinInt},
		api.Entry{Kind: api.EId, Host: 1},
		api.Entry{Kind: api.EId, Host: -1},
		api.Entry{Kind: api.EId, Id: rising(), Host: 15},
		api.Entry{Kind: api.EId, Id: rising(), Host: math.MinInt},
		host(-1), host(16), host(17), host(255), host(256), host(259), host(math.MaxInt), host(math.MinInt),
		api.Entry{Kind: api.EHost, Id: api.Id{0: 1}},
		api.Entry{Kind: api.EHost, Id: api.Id{15: 1}, Host: 3},
		api.Entry{Kind: api.EHost, Id: api.Id{31: 1}, Host: 3},
		api.Entry{Kind: api.EHost, Id: filled(255), Host: 15},
	)
}

// stacksUpTo are all rows of at most n of some entries, the empty one among them.
func stacksUpTo(n int, some []api.Entry) [][]api.Entry {
	all := [][]api.Entry{nil}
	last := all
	for range n {
		var longer [][]api.Entry
		for _, l := range last {
			for _, e := range some {
				longer = append(longer, append(slices.Clone(l), e))
			}
		}
		all, last = append(all, longer...), longer
	}
	return all
}

func someStacks() [][]api.Entry {
	return stacksUpTo(4, stackOf(id(api.Id{}), id(rising()), id(api.Id{31: 1}), host(0), host(3), host(15)))
}

// bytesOf is a stack's bytes as the chapter tells them.
func bytesOf(l []api.Entry) string {
	s := string(rune(len(l)))
	for _, e := range l {
		if e.Kind == api.EId {
			s += "\x01" + string(e.Id[:])
		} else {
			s += "\x02" + string(rune(e.Host))
		}
	}
	return s
}

func TestEntriesThatMayBe(t *testing.T) {
	for _, e := range rightEntries() {
		if !Is(e) {
			t.Errorf("%v may be", e)
		}
	}
	for n := range 16 {
		if !Is(host(n)) {
			t.Errorf("host %d may be", n)
		}
	}
}

func TestEntriesThatMayNotBe(t *testing.T) {
	for _, e := range wrongEntries() {
		if Is(e) {
			t.Errorf("%v may not be", e)
		}
	}
	for i := range 32 {
		e := host(i % 16)
		e.Id[i] = 1
		if Is(e) {
			t.Errorf("a host may have no identifier, but has byte %d of one", i)
		}
	}
}

func TestStacksThatMayBeHaveOneToFourEntries(t *testing.T) {
	for _, e := range rightEntries() {
		var l []api.Entry
		for n := range 8 {
			if got, want := Right(l), n >= 1 && n <= 4; got != want {
				t.Errorf("%d times %v: %v", n, e, got)
			}
			l = append(l, e)
		}
	}
	if Right([]api.Entry{}) || Right(make([]api.Entry, 0, 4)) {
		t.Error("a stack of none may not be")
	}
	for _, l := range someStacks() {
		if got, want := Right(l), len(l) > 0; got != want {
			t.Errorf("%v: %v", l, got)
		}
	}
}

func TestAStackWithAWrongEntryMayNotBe(t *testing.T) {
	for _, wrong := range wrongEntries() {
		for n := 1; n <= 6; n++ {
			for at := range n {
				l := slices.Repeat(stackOf(host(3)), n)
				l[at] = wrong
				if Right(l) {
					t.Errorf("%v may not be", l)
				}
				if s, err := Text(l); s != "" || err != api.ErrArg {
					t.Errorf("%v: %q, %d", l, s, err)
				}
			}
		}
	}
}

func TestTextOfTheExample(t *testing.T) {
	if s, err := Text(stackOf(host(3))); s != "\x01\x02\x03" || err != api.OK {
		t.Errorf("%q, %d", s, err)
	}
}

func TestTextOfAllKinds(t *testing.T) {
	a := rising()
	l := stackOf(host(15), id(a), host(0), id(api.Id{}))
	want := "\x04" + "\x02\x0f" + "\x01" + string(a[:]) + "\x02\x00" + "\x01" + strings.Repeat("\x00", 32)
	if s, err := Text(l); s != want || err != api.OK {
		t.Errorf("%q, %d", s, err)
	}
	for _, l := range someStacks()[1:] {
		if s, err := Text(l); s != bytesOf(l) || err != api.OK {
			t.Fatalf("%v: %q, %d", l, s, err)
		}
	}
	for _, e := range rightEntries() {
		if s, err := Text(stackOf(e)); s != bytesOf(stackOf(e)) || err != api.OK {
			t.Errorf("%v: %q, %d", e, s, err)
		}
	}
}

func TestTextOfStacksThatMayNotBe(t *testing.T) {
	for _, l := range [][]api.Entry{nil, {}, slices.Repeat(stackOf(host(3)), 5), slices.Repeat(stackOf(id(rising())), 5), make([]api.Entry, 4), slices.Repeat(stackOf(host(0)), 256), slices.Repeat(stackOf(host(0)), 257)} {
		if s, err := Text(l); s != "" || err != api.ErrArg {
			t.Errorf("%d entries: %q, %d", len(l), s, err)
		}
	}
}

func TestSameByEveryField(t *testing.T) {
	all := append(rightEntries(), wrongEntries()...)
	for i, a := range all {
		for j, b := range all {
			if got, want := Same(stackOf(a), stackOf(b)), i == j; got != want {
				t.Errorf("%v and %v: %v", a, b, got)
			}
		}
	}
	for i := range 32 {
		other := rising()
		other[i] ^= 1
		if Same(stackOf(host(1), id(rising())), stackOf(host(1), id(other))) {
			t.Errorf("byte %d is another one", i)
		}
	}
}

func TestSameByLengthAndOrder(t *testing.T) {
	all := stacksUpTo(3, stackOf(id(rising()), host(0), host(3), id(api.Id{})))
	for i, a := range all {
		for j, b := range all {
			if got, want := Same(a, slices.Clone(b)), i == j; got != want {
				t.Fatalf("%v and %v: %v", a, b, got)
			}
		}
	}
	long := slices.Repeat(stackOf(host(3)), 9)
	if !Same(long, slices.Clone(long)) || Same(long, long[:8]) || Same(long[:8], long) {
		t.Error("longer ones than may be are the same by their entries too")
	}
	if !Same(nil, []api.Entry{}) || !Same(nil, nil) || Same(nil, stackOf(api.Entry{})) {
		t.Error("none")
	}
}

func TestPushPutsAhead(t *testing.T) {
	some := stackOf(id(rising()), host(0), host(3))
	for _, front := range stacksUpTo(5, some) {
		for _, l := range stacksUpTo(3, some) {
			got, err := Push(l, front...)
			if len(front)+len(l) > 4 {
				if len(got) != 0 || err != api.ErrDeep {
					t.Fatalf("%v ahead of %v: %v, %d", front, l, got, err)
				}
				continue
			}
			if err != api.OK || !slices.Equal(got, append(slices.Clone(front), l...)) {
				t.Fatalf("%v ahead of %v: %v, %d", front, l, got, err)
			}
		}
	}
}

func TestPushOfNone(t *testing.T) {
	for _, l := range [][]api.Entry{nil, {}} {
		if got, err := Push(l); len(got) != 0 || err != api.OK {
			t.Errorf("%v, %d", got, err)
		}
		if got, err := Push(l, l...); len(got) != 0 || err != api.OK {
			t.Errorf("%v, %d", got, err)
		}
	}
}

func TestPushOfTooMany(t *testing.T) {
	for _, c := range [][2]int{{5, 0}, {0, 5}, {4, 1}, {1, 4}, {2, 3}, {300, 0}, {0, 300}, {256, 256}} {
		got, err := Push(slices.Repeat(stackOf(host(3)), c[0]), slices.Repeat(stackOf(id(rising())), c[1])...)
		if len(got) != 0 || err != api.ErrDeep {
			t.Errorf("%v: %v, %d", c, got, err)
		}
	}
}

func TestPushOfWrongEntriesIsNamedAheadOfTooMany(t *testing.T) {
	for _, wrong := range wrongEntries() {
		for n := 1; n <= 6; n++ {
			for at := range n {
				bad := slices.Repeat(stackOf(host(3)), n)
				bad[at] = wrong
				for m := range 6 {
					good := slices.Repeat(stackOf(id(rising())), m)
					if got, err := Push(bad, good...); len(got) != 0 || err != api.ErrArg {
						t.Errorf("%v ahead of %v: %v, %d", good, bad, got, err)
					}
					if got, err := Push(good, bad...); len(got) != 0 || err != api.ErrArg {
						t.Errorf("%v ahead of %v: %v, %d", bad, good, got, err)
					}
				}
			}
		}
	}
}

func TestReadOfTheExample(t *testing.T) {
	for _, s := range []string{"\x01\x02\x03", "\x01\x02\x03\x01\x02\x03", "\x01\x02\x03\x00"} {
		l, n, err := Read(s)
		if !slices.Equal(l, stackOf(host(3))) || n != 3 || err != api.OK {
			t.Errorf("%q: %v, %d, %d", s, l, n, err)
		}
	}
}

func TestReadOfNoBytes(t *testing.T) {
	if l, n, err := Read(""); len(l) != 0 || n != 0 || err != api.ErrShort {
		t.Errorf("%v, %d, %d", l, n, err)
	}
}

func TestReadOfEachFirstByte(t *testing.T) {
	for b := range 256 {
		for n := range 6 {
			s := string([]byte{byte(b)}) + strings.Repeat("\x02\x07", n)
			want := api.OK
			if b < 1 || b > 4 {
				want = api.ErrSyntax
			} else if n < b {
				want = api.ErrShort
			}
			l, size, err := Read(s)
			if err != want {
				t.Fatalf("%q: %d", s, err)
			}
			if err == api.OK && (size != 1+2*b || !slices.Equal(l, slices.Repeat(stackOf(host(7)), b))) {
				t.Fatalf("%q: %v, %d", s, l, size)
			}
			if err != api.OK && (size != 0 || len(l) != 0) {
				t.Fatalf("%q: %v, %d beside an error", s, l, size)
			}
		}
	}
}

func TestReadOfEachKindOfEntry(t *testing.T) {
	for n := 1; n <= 4; n++ {
		for at := range n {
			ahead := string(rune(n)) + strings.Repeat("\x02\x0f", at)
			for b := range 256 {
				s := ahead + string([]byte{byte(b)})
				want := api.ErrSyntax
				if b == 1 || b == 2 {
					want = api.ErrShort
				}
				if l, size, err := Read(s); len(l) != 0 || size != 0 || err != want {
					t.Fatalf("%q: %v, %d, %d", s, l, size, err)
				}
				if b == 1 || b == 2 {
					continue
				}
				s += strings.Repeat("\x01", 200)
				if l, size, err := Read(s); len(l) != 0 || size != 0 || err != api.ErrSyntax {
					t.Fatalf("%q: %v, %d, %d", s, l, size, err)
				}
			}
		}
	}
}

func TestReadOfEachHost(t *testing.T) {
	for n := 1; n <= 4; n++ {
		for at := range n {
			for b := range 256 {
				s := []byte(bytesOf(slices.Repeat(stackOf(host(5)), n)))
				s[2+2*at] = byte(b)
				l, size, err := Read(string(s))
				if b > 15 {
					if len(l) != 0 || size != 0 || err != api.ErrSyntax {
						t.Fatalf("%q: %v, %d, %d", s, l, size, err)
					}
					continue
				}
				want := slices.Repeat(stackOf(host(5)), n)
				want[at].Host = b
				if !slices.Equal(l, want) || size != 1+2*n || err != api.OK {
					t.Fatalf("%q: %v, %d, %d", s, l, size, err)
				}
			}
		}
	}
}

func TestReadTellsTheFirstFault(t *testing.T) {
	a := string(make([]byte, 32))
	for _, c := range []struct {
		s    string
		want api.Errno
	}{
		{"\x02\x02\x10", api.ErrSyntax},                 // a host above 15, ahead of no byte of the second entry
		{"\x02\x03", api.ErrSyntax},                     // a kind that is none, ahead of no second entry
		{"\x02\x02\x0f\x03", api.ErrSyntax},             // the second one's kind
		{"\x02\x02\x0f\x02", api.ErrShort},              // the second one's host
		{"\x02\x02\x0f", api.ErrShort},                  // no second one
		{"\x05", api.ErrSyntax},                         // too many, ahead of no byte
		{"\x00", api.ErrSyntax},                         // none, ahead of no byte
		{"\x01\x01" + a[1:], api.ErrShort},              // 31 bytes of an identifier
		{"\x01\x01" + a, api.OK},                        // 32 bytes
		{"\x02\x01" + a[1:] + "\x03", api.ErrShort},     // the byte behind is the identifier's last, and no second one is there
		{"\x02\x01" + a + "\x02\x10", api.ErrSyntax},    // a host above 15 behind an identifier
		{"\x02\x01" + a + "\x01" + a[1:], api.ErrShort}, // 31 bytes of the second identifier
	} {
		if l, n, err := Read(c.s); err != c.want || err != api.OK && (len(l) != 0 || n != 0) {
			t.Errorf("%q: %v, %d, %d", c.s, l, n, err)
		}
	}
}

func TestReadOfTextsThatAreCutOff(t *testing.T) {
	for _, l := range stacksUpTo(4, stackOf(id(rising()), host(3))) {
		if len(l) == 0 {
			continue
		}
		s := bytesOf(l)
		for n := range len(s) {
			if got, size, err := Read(s[:n]); len(got) != 0 || size != 0 || err != api.ErrShort {
				t.Fatalf("%d bytes of %v: %v, %d, %d", n, l, got, size, err)
			}
		}
	}
}

// readByHand reads byte by byte, as the chapter tells it.
func readByHand(s string) (l []api.Entry, n int, err api.Errno) {
	at := 0
	need := func(n int) []byte {
		if len(s)-at < n {
			panic(api.ErrShort)
		}
		at += n
		return []byte(s[at-n : at])
	}
	defer func() {
		if r := recover(); r != nil {
			l, n, err = nil, 0, r.(api.Errno)
		}
	}()
	count := need(1)[0]
	if count == 0 || count > 4 {
		panic(api.ErrSyntax)
	}
	for len(l) < int(count) {
		switch need(1)[0] {
		case 1:
			l = append(l, id(api.Id(need(32))))
		case 2:
			b := need(1)[0]
			if b > 15 {
				panic(api.ErrSyntax)
			}
			l = append(l, host(int(b)))
		default:
			panic(api.ErrSyntax)
		}
	}
	return l, at, api.OK
}

func TestReadOfTextsOfSmallBytes(t *testing.T) {
	rolls := rand.New(rand.NewSource(4))
	seen := map[api.Errno]int{}
	for range 60000 {
		s := make([]byte, rolls.Intn(150))
		for i := range s {
			s[i] = byte(rolls.Intn(4))
			if rolls.Intn(12) == 0 {
				s[i] = byte(rolls.Intn(20))
			}
		}
		l, n, err := Read(string(s))
		wantL, wantN, want := readByHand(string(s))
		if !slices.Equal(l, wantL) || n != wantN || err != want {
			t.Fatalf("%q: %v, %d, %d; want %v, %d, %d", s, l, n, err, wantL, wantN, want)
		}
		seen[err]++
	}
	for _, err := range []api.Errno{api.OK, api.ErrShort, api.ErrSyntax} {
		if seen[err] < 1000 {
			t.Errorf("error %d came %d times only", err, seen[err])
		}
	}
}

func TestWhatIsWrittenIsReadWhateverIsBehind(t *testing.T) {
	for _, behind := range []string{"", "\x00", "\x01", "\x02", "\x02\x10", "\xff", strings.Repeat("\x01", 200)} {
		for _, l := range someStacks()[1:] {
			s, err := Text(l)
			if err != api.OK {
				t.Fatalf("%v: %d", l, err)
			}
			got, n, err := Read(s + behind)
			if !Same(got, l) || n != len(s) || err != api.OK {
				t.Fatalf("%v: %v, %d, %d", l, got, n, err)
			}
		}
	}
}

func TestWhatIsReadIsWritten(t *testing.T) {
	rolls := rand.New(rand.NewSource(40))
	for range 20000 {
		s := make([]byte, 1+rolls.Intn(140))
		for i := range s {
			s[i] = byte(1 + rolls.Intn(2))
		}
		l, n, err := Read(string(s))
		if err != api.OK {
			continue
		}
		if text, err := Text(l); !Right(l) || text != string(s[:n]) || err != api.OK {
			t.Fatalf("%q: %v, %q, %d", s, l, text, err)
		}
	}
}

func TestUnlikeStacksHaveUnlikeBytes(t *testing.T) {
	of := map[string]string{}
	for _, l := range someStacks()[1:] {
		s, err := Text(l)
		if err != api.OK {
			t.Fatalf("%v: %d", l, err)
		}
		if other, is := of[s]; is {
			t.Fatalf("%v and %s have the same bytes", l, other)
		}
		of[s] = fmt.Sprint(l)
	}
}

func TestWhatIsPushedIsAhead(t *testing.T) {
	all := rightEntries()
	for _, a := range all {
		for _, b := range all {
			one, err := Push(stackOf(host(9)), a)
			if err != api.OK {
				t.Fatal(err)
			}
			two, err := Push(one, b)
			if err != api.OK || !Same(two, stackOf(b, a, host(9))) {
				t.Fatalf("%v, %d", two, err)
			}
			s, err := Text(two)
			if l, _, no := Read(s); err != api.OK || no != api.OK || l[0] != b || l[1] != a {
				t.Fatalf("%v, %d, %d", l, err, no)
			}
		}
	}
}

func TestCallsChangeNothing(t *testing.T) {
	front, l := stackOf(host(1), id(rising())), stackOf(host(2), id(filled(7)))
	wasFront, was := slices.Clone(front), slices.Clone(l)
	Right(l)
	Text(l)
	Same(l, front)
	Push(l, front...)
	Push(l, append(front, front...)...)
	if !slices.Equal(front, wasFront) || !slices.Equal(l, was) {
		t.Error("a list was changed")
	}
}

func TestAnswersAreNewMemory(t *testing.T) {
	front, l := stackOf(host(1)), stackOf(host(2))
	room := append(make([]api.Entry, 0, 8), host(1))
	for _, c := range []struct{ l, front []api.Entry }{{l, nil}, {nil, front}, {l, front}, {l, room}, {room, nil}, {nil, room}} {
		got, err := Push(c.l, c.front...)
		if err != api.OK {
			t.Fatal(err)
		}
		for i := range got {
			got[i] = host(9)
		}
	}
	if l[0] != host(2) || front[0] != host(1) || room[0] != host(1) || room[:2][1] != (api.Entry{}) {
		t.Error("an answer shares memory with an argument")
	}
	one, _, _ := Read("\x01\x02\x03")
	one[0] = host(9)
	if two, _, _ := Read("\x01\x02\x03"); two[0] != host(3) {
		t.Error("two answers share memory")
	}
}
