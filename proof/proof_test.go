package proof

import (
	"crypto/sha256"
	"encoding/hex"
	"math"
	"slices"
	"strings"
	"testing"

	"posthouse/api"
)

func filled(b byte) api.Id {
	var a api.Id
	for i := range a {
		a[i] = b
	}
	return a
}

// rising has the bytes 0 to 31.
func rising() api.Id {
	var a api.Id
	for i := range a {
		a[i] = byte(i)
	}
	return a
}

func mixedId(seed uint32) api.Id {
	var a api.Id
	for i := range a {
		seed = seed*1664525 + 1013904223
		a[i] = byte(seed >> 24)
	}
	return a
}

// tailed has a's key, and other bytes behind it.
func tailed(a api.Id, b byte) api.Id {
	for i := 16; i < 32; i++ {
		a[i] ^= b
	}
	return a
}

func flipBit(a api.Id, k int) api.Id {
	a[k/8] ^= 128 >> (k % 8)
	return a
}

func link(from, to api.Id) api.Link { return api.Link{From: from, To: to} }

func someIds() []api.Id {
	l := []api.Id{{}, filled(255), rising(), {0: 1}, {15: 1}, {16: 128}, {31: 1}}
	for seed := range uint32(6) {
		l = append(l, mixedId(seed))
	}
	return l
}

func bytesOf(t *testing.T, digits string) []byte {
	t.Helper()
	b, err := hex.DecodeString(digits)
	if err != nil {
		t.Fatal(err)
	}
	return b
}

func TestLeftAndRightOfKnownKeys(t *testing.T) {
	for _, c := range []struct {
		a           api.Id
		left, right string
	}{
		{api.Id{}, "b813a2c829c2db59435ff3213ccfbf44", "49696508262f859431c251984954f048"},
		{filled(255), "ce7a5de66f774ad91d9c42154e547918", "e725abb149c7d9dd9b13d0b265968c3c"},
		{rising(), "e304b045407f248f4de52e13c076ef27", "2f4aa681890ea6ddcdccfcf4df5d1d16"},
	} {
		var left, right api.Id
		copy(left[:], bytesOf(t, c.left))
		copy(right[:], bytesOf(t, c.right))
		if got := Left(c.a); got != left {
			t.Errorf("Left(%x) = %x, want %x", c.a, got, left)
		}
		if got := Right(c.a); got != right {
			t.Errorf("Right(%x) = %x, want %x", c.a, got, right)
		}
	}
}

// summedHalf is the chapter's definition, by another SHA-256.
func summedHalf(word string, a api.Id) api.Id {
	sum := sha256.Sum256(append([]byte(word), a[:16]...))
	var want api.Id
	copy(want[:16], sum[:16])
	return want
}

func TestLeftAndRightAreHalfASumAndNothingBehindIt(t *testing.T) {
	for _, a := range someIds() {
		if got, want := Left(a), summedHalf("left", a); got != want {
			t.Errorf("Left(%x) = %x, want %x", a, got, want)
		}
		if got, want := Right(a), summedHalf("right", a); got != want {
			t.Errorf("Right(%x) = %x, want %x", a, got, want)
		}
	}
}

func TestLeftAndRightHangOnKeysAlone(t *testing.T) {
	for _, a := range someIds() {
		for k := range 256 {
			b, inKey := flipBit(a, k), k < 128
			if (Left(a) != Left(b)) != inKey || (Right(a) != Right(b)) != inKey {
				t.Errorf("bit %d of %x: Left and Right = %x and %x, flipped %x and %x", k, a, Left(a), Right(a), Left(b), Right(b))
			}
		}
	}
}

func TestAnIdentifierMayLeadToWhatItsKeyLeadsTo(t *testing.T) {
	for _, a := range someIds() {
		for _, b := range []byte{0, 1, 255} {
			if !Links(a, tailed(Left(a), b)) || !Links(tailed(a, b), Left(a)) {
				t.Errorf("%x may not lead to its Left", a)
			}
		}
	}
}

func TestWhatAKeyComesFromMayLeadToIt(t *testing.T) {
	for _, a := range someIds() {
		for _, b := range []byte{0, 1, 255} {
			if !Links(tailed(Right(a), b), a) || !Links(Right(a), tailed(a, b)) {
				t.Errorf("the Right of %x may not lead to it", a)
			}
		}
	}
}

func TestNothingElseMayLead(t *testing.T) {
	for _, a := range someIds() {
		for _, c := range []struct {
			what     string
			from, to api.Id
		}{
			{"itself to itself", a, a},
			{"itself to its Right", a, Right(a)},
			{"its Left to itself", Left(a), a},
			{"itself to its Left's Left", a, Left(Left(a))},
			{"its Right's Right to itself", Right(Right(a)), a},
			{"its Left to its Right", Left(a), Right(a)},
			{"nothing to itself", api.Id{}, a},
			{"itself to nothing", a, api.Id{}},
		} {
			if Links(c.from, c.to) {
				t.Errorf("of %x, %s: Links(%x, %x)", a, c.what, c.from, c.to)
			}
		}
	}
	for _, a := range someIds() {
		for _, b := range someIds() {
			if Links(a, b) {
				t.Errorf("Links(%x, %x)", a, b)
			}
		}
	}
}

func TestEveryBitOfAKeyCountsInALink(t *testing.T) {
	for _, a := range someIds() {
		for k := range 256 {
			want := k >= 128
			for _, l := range []api.Link{
				link(a, flipBit(Left(a), k)),
				link(flipBit(a, k), Left(a)),
				link(flipBit(Right(a), k), a),
				link(Right(a), flipBit(a, k)),
			} {
				if Links(l.From, l.To) != want {
					t.Errorf("Links(%x, %x) = %t, bit %d is flipped", l.From, l.To, !want, k)
				}
			}
		}
	}
}

func TestNonceOfKnownOnes(t *testing.T) {
	for _, c := range []struct {
		secret string
		id     api.Id
		host   int
		want   string
	}{
		{"", api.Id{}, 0, "2e06218ab196cf7123d28d17923d9a5e"},
		{"secret", rising(), 3, "11e393bde4b3d77cb7db81698e30492c"},
		{strings.Repeat("s", 64), filled(255), 15, "9f6f8a01ca2f1e9e5180ffdc4c3b5b49"},
	} {
		if got, e := Nonce(c.secret, c.id, c.host); got != string(bytesOf(t, c.want)) || e != api.OK {
			t.Errorf("Nonce(%q, %x, %d) = %x, %d, want %s", c.secret, c.id, c.host, got, e, c.want)
		}
	}
}

func TestNonceIsHalfASum(t *testing.T) {
	for _, secret := range []string{"", "a", "\x00", "\xff\xfe", "left", strings.Repeat("é", 32)} {
		for _, id := range someIds() {
			for host := range 16 {
				sum := sha256.Sum256(append(append([]byte("nonce"+secret), id[:]...), byte(host)))
				if got, e := Nonce(secret, id, host); got != string(sum[:16]) || e != api.OK {
					t.Errorf("Nonce(%q, %x, %d) = %x, %d, want %x", secret, id, host, got, e, sum[:16])
				}
			}
		}
	}
}

func TestNonceHangsOnEachOfItsThree(t *testing.T) {
	got, _ := Nonce("secret", rising(), 3)
	for k := range 256 {
		if other, _ := Nonce("secret", flipBit(rising(), k), 3); other == got {
			t.Errorf("the nonce does not hang on the identifier's bit %d", k)
		}
	}
	for host := range 16 {
		if other, _ := Nonce("secret", rising(), host); (other == got) != (host == 3) {
			t.Errorf("the nonce of host %d = %x, of host 3 = %x", host, other, got)
		}
	}
	for _, secret := range []string{"", "secre", "secrets", "Secret", "secret\x00"} {
		if other, _ := Nonce(secret, rising(), 3); other == got {
			t.Errorf("the nonce of %q is that of another secret", secret)
		}
	}
}

func TestNonceAtItsEdges(t *testing.T) {
	longest := strings.Repeat("x", 64)
	for _, c := range []struct {
		secret string
		host   int
		e      api.Errno
	}{
		{"", 0, api.OK},
		{"", 15, api.OK},
		{longest, 0, api.OK},
		{longest, 15, api.OK},
		{"", -1, api.ErrArg},
		{"", 16, api.ErrArg},
		{"", 256, api.ErrArg},
		{"", math.MaxInt, api.ErrArg},
		{"", math.MinInt, api.ErrArg},
		{longest + "x", 0, api.ErrLong},
		{longest + "x", 15, api.ErrLong},
		{strings.Repeat("é", 33), 3, api.ErrLong},
		{strings.Repeat(longest, 1000), 3, api.ErrLong},
		{longest + "x", -1, api.ErrArg},
		{longest + "x", 16, api.ErrArg},
	} {
		got, e := Nonce(c.secret, rising(), c.host)
		if e != c.e {
			t.Errorf("Nonce of a secret of %d bytes and host %d: %d, want %d", len(c.secret), c.host, e, c.e)
		}
		if want := c.e == api.OK; (len(got) == 16) != want || (got == "") == want {
			t.Errorf("Nonce of a secret of %d bytes and host %d = %x, %d", len(c.secret), c.host, got, e)
		}
	}
}

// place is an identifier of its own key for each number.
func place(n int) api.Id { return api.Id{0: byte(n), 15: byte(n >> 8)} }

// row has a link from each place to the next one.
func row(places ...int) []api.Link {
	var l []api.Link
	for i := 1; i < len(places); i++ {
		l = append(l, link(place(places[i-1]), place(places[i])))
	}
	return l
}

// upTo has the places 0 to n.
func upTo(n int) []int {
	var places []int
	for i := range n + 1 {
		places = append(places, i)
	}
	return places
}

func checkAcyclic(t *testing.T, what string, links []api.Link, want bool) {
	t.Helper()
	if got, e := Acyclic(links...); got != want || e != api.OK {
		t.Errorf("%s: Acyclic = %t, %d, want %t", what, got, e, want)
	}
	back := slices.Clone(links)
	slices.Reverse(back)
	if got, e := Acyclic(back...); got != want || e != api.OK {
		t.Errorf("%s, from the last link on: Acyclic = %t, %d, want %t", what, got, e, want)
	}
}

func TestAcyclicOfRows(t *testing.T) {
	for _, c := range []struct {
		what  string
		links []api.Link
		want  bool
	}{
		{"nil", nil, true},
		{"no link", []api.Link{}, true},
		{"one link", row(1, 2), true},
		{"one link to itself", row(1, 1), false},
		{"the zero link", []api.Link{{}}, false},
		{"there and back", row(1, 2, 1), false},
		{"three in a ring", row(1, 2, 3, 1), false},
		{"three in a row", row(1, 2, 3, 4), true},
		{"one link twice", slices.Concat(row(1, 2), row(1, 2)), true},
		{"two ways to one place", slices.Concat(row(1, 2, 4), row(1, 3, 4)), true},
		{"two ways, one of them back", slices.Concat(row(1, 2, 4), row(4, 3, 1)), false},
		{"a short cut", slices.Concat(row(1, 2, 3), row(1, 3)), true},
		{"two rows apart", slices.Concat(row(1, 2, 3), row(4, 5, 6)), true},
		{"a row, and a ring apart", slices.Concat(row(1, 2, 3), row(4, 5, 4)), false},
		{"a row into a ring", slices.Concat(row(1, 2, 3), row(3, 4, 3)), false},
		{"a row out of a ring", slices.Concat(row(1, 2, 1), row(2, 3, 4)), false},
		{"a row through a place that leads to itself", slices.Concat(row(1, 2, 3), row(2, 2)), false},
		{"two rings", slices.Concat(row(1, 2, 1), row(3, 4, 3)), false},
		{"two rings at one place", slices.Concat(row(1, 2, 1), row(1, 3, 1)), false},
		{"all to one place", slices.Concat(row(1, 9), row(2, 9), row(3, 9)), true},
		{"all from one place", slices.Concat(row(9, 1), row(9, 2), row(9, 3)), true},
	} {
		checkAcyclic(t, c.what, c.links, c.want)
	}
}

func TestAcyclicGoesByKeys(t *testing.T) {
	a, b := rising(), filled(85)
	checkAcyclic(t, "back by other identifiers of the keys", []api.Link{link(a, b), link(tailed(b, 1), tailed(a, 255))}, false)
	checkAcyclic(t, "to another identifier of the key", []api.Link{link(a, tailed(a, 7))}, false)
	for k := range 256 {
		want := k < 128
		checkAcyclic(t, "to what is unlike in one bit", []api.Link{link(a, flipBit(a, k))}, want)
		checkAcyclic(t, "back from what is unlike in one bit", []api.Link{link(a, b), link(flipBit(b, k), a)}, want)
	}
}

func TestAcyclicTakesLinksAsTheyAre(t *testing.T) {
	// Whether one may lead to the other one is not asked.
	a := mixedId(7)
	var down []api.Link
	for range 5 {
		down = append(down, link(a, Left(a)))
		a = Left(a)
	}
	checkAcyclic(t, "rows that may lead", down, true)
	checkAcyclic(t, "a row that comes back by a link that may not lead", append(down, link(a, mixedId(7))), false)
	checkAcyclic(t, "what its key leads to, turned about", []api.Link{link(Left(a), a)}, true)
}

func TestAcyclicAtItsEdges(t *testing.T) {
	checkAcyclic(t, "64 in a row", row(upTo(64)...), true)
	checkAcyclic(t, "63 in a row, and the last one to itself", row(append(upTo(63), 63)...), false)
	checkAcyclic(t, "64 in a ring", row(append(upTo(63), 0)...), false)
	checkAcyclic(t, "63 in a row, and one from its end to its middle", row(append(upTo(63), 31)...), false)
	for _, l := range [][]api.Link{
		row(upTo(65)...),
		row(append(upTo(64), 0)...),
		slices.Repeat(row(1, 2), 65),
		slices.Repeat(row(1, 1), 65),
		row(upTo(1000)...),
	} {
		if got, e := Acyclic(l...); got || e != api.ErrLong {
			t.Errorf("Acyclic of %d links = %t, %d, want ErrLong", len(l), got, e)
		}
	}
	checkAcyclic(t, "one link 64 times", slices.Repeat(row(1, 2), 64), true)
	checkAcyclic(t, "one link to itself 64 times", slices.Repeat(row(1, 1), 64), false)
}

// comesBack tells, by all ways among n places, whether one leads back.
func comesBack(links []api.Link, n int) bool {
	reach := make([][]bool, n)
	for i := range reach {
		reach[i] = make([]bool, n)
	}
	for _, l := range links {
		reach[l.From[0]][l.To[0]] = true
	}
	for over := range n {
		for i := range n {
			for k := range n {
				reach[i][k] = reach[i][k] || reach[i][over] && reach[over][k]
			}
		}
	}
	for i := range n {
		if reach[i][i] {
			return true
		}
	}
	return false
}

func TestAcyclicOfManyRows(t *testing.T) {
	mixed := uint32(1)
	next := func(n int) int {
		mixed = mixed*1664525 + 1013904223
		return int(mixed>>8) % n
	}
	seen := map[bool]int{}
	for range 3000 {
		n := 2 + next(20)
		var links []api.Link
		for range next(2 * n) {
			from, to := place(next(n)), place(next(n))
			links = append(links, link(tailed(from, byte(next(256))), tailed(to, byte(next(256)))))
		}
		want := !comesBack(links, n)
		seen[want]++
		checkAcyclic(t, "a mixed row", links, want)
	}
	if seen[true] < 500 || seen[false] < 500 {
		t.Errorf("of the mixed rows %d come back, %d do not", seen[false], seen[true])
	}
}

func TestAcyclicInAnyOrder(t *testing.T) {
	ring, open := row(1, 2, 3, 4, 5, 1), row(1, 2, 3, 4, 5, 6)
	for i := range ring {
		for k := range ring {
			ring[i], ring[k] = ring[k], ring[i]
			open[i], open[k] = open[k], open[i]
			checkAcyclic(t, "a ring", ring, false)
			checkAcyclic(t, "a row", open, true)
		}
	}
}

func TestNoCallKeepsOrChangesAnything(t *testing.T) {
	links := slices.Concat(row(1, 2, 3, 4), row(5, 6, 5))
	was := slices.Clone(links)
	Acyclic(row(3, 1)...)
	for range 2 {
		if got, e := Acyclic(links...); got || e != api.OK {
			t.Errorf("Acyclic = %t, %d", got, e)
		}
		if !slices.Equal(links, was) {
			t.Error("the links were changed")
		}
		if got, e := Acyclic(links[:3]...); !got || e != api.OK {
			t.Errorf("Acyclic of what was not the ring = %t, %d", got, e)
		}
	}
	a := rising()
	first, _ := Nonce("secret", a, 3)
	Left(a)
	Right(a)
	if again, _ := Nonce("secret", a, 3); again != first || a != rising() {
		t.Error("a second call tells something else, or the identifier was changed")
	}
}
