package digest

import (
	"crypto/sha256"
	"encoding/hex"
	"math"
	"math/big"
	"slices"
	"strings"
	"testing"

	"posthouse/api"
)

// mixedText has n bytes of all kinds, most of which are no text in UTF-8.
func mixedText(n int) string {
	b := make([]byte, n)
	mixed := uint32(n + 1)
	for i := range b {
		mixed = mixed*1664525 + 1013904223
		b[i] = byte(mixed >> 24)
	}
	return string(b)
}

// edges are the lengths at which a block is full, or has no more room for the size.
var edges = []int{0, 1, 54, 55, 56, 57, 63, 64, 65, 118, 119, 120, 121, 127, 128, 129, 183, 184, 192}

func TestSumOfKnownTexts(t *testing.T) {
	for _, c := range []struct{ text, want string }{
		{"abc", "ba7816bf8f01cfea414140de5dae2223b00361a396177a9cb410ff61f20015ad"},
		{"", "e3b0c44298fc1c149afbf4c8996fb92427ae41e4649b934ca495991b7852b855"},
		{"abcdbcdecdefdefgefghfghighijhijkijkljklmklmnlmnomnopnopq",
			"248d6a61d20638b8e5c026930c3e6039a33ce45964ff2167f6ecedd419db06c1"},
		{"abcdefghbcdefghicdefghijdefghijkefghijklfghijklmghijklmnhijklmnoijklmnopjklmnopqklmnopqrlmnopqrsmnopqrstnopqrstu",
			"cf5b16a778af8380036ce59e7b0492370b249b11e8f07a51afac45037afee9d1"},
		{strings.Repeat("a", 1000000), "cdc76e5c9914fb9281a1c7e284d73e67f1809a48a497200e046d39ccc7112cd0"},
	} {
		got := Sum(c.text)
		if hex.EncodeToString(got[:]) != c.want {
			t.Errorf("Sum of %d bytes = %x, want %s", len(c.text), got, c.want)
		}
	}
}

func TestSumAtEveryLength(t *testing.T) {
	for n := range 400 {
		for _, s := range []string{mixedText(n), strings.Repeat("\x00", n), strings.Repeat("\xff", n), strings.Repeat("\x80", n)} {
			if got, want := Sum(s), sha256.Sum256([]byte(s)); got != want {
				t.Errorf("Sum(%q) = %x, want %x", s, got, want)
			}
		}
	}
}

func TestSumOfLongTexts(t *testing.T) {
	// The size in bits has a second, a third and a fourth byte.
	for _, n := range []int{31, 32, 8191, 8192, 8193, 1<<21 - 1, 1 << 21, 1<<21 + 57} {
		s := mixedText(n)
		if got, want := Sum(s), sha256.Sum256([]byte(s)); got != want {
			t.Errorf("Sum of %d bytes = %x, want %x", n, got, want)
		}
	}
}

func TestTheLastBlockEndsInTheSizeInBits(t *testing.T) {
	for _, c := range []struct {
		size uint64
		want [8]byte
	}{
		{0, [8]byte{}},
		{3, [8]byte{7: 24}},
		{32, [8]byte{6: 1}},
		{1<<32 - 1, [8]byte{3: 7, 4: 255, 5: 255, 6: 255, 7: 248}},
		{1 << 40, [8]byte{2: 8}},
		{1<<61 - 1, [8]byte{255, 255, 255, 255, 255, 255, 255, 248}},
	} {
		last := sized(block{0: 9, 55: 7}, c.size)
		want := block{0: 9, 55: 7}
		copy(want[56:], c.want[:])
		if last != want {
			t.Errorf("the last block of %d bytes = %x", c.size, last)
		}
	}
}

func TestSumOfNoText(t *testing.T) {
	want := api.Id(sha256.Sum256(nil))
	for _, parts := range [][]string{nil, {}, {""}, {"", "", ""}} {
		if got := Sum(parts...); got != want {
			t.Errorf("Sum of %d empty texts = %x, want %x", len(parts), got, want)
		}
	}
	if got := Sum(); got != want {
		t.Errorf("Sum() = %x, want %x", got, want)
	}
}

func TestSumTakesTheTextsInTheirOrder(t *testing.T) {
	ab, ba := api.Id(sha256.Sum256([]byte("ab"))), api.Id(sha256.Sum256([]byte("ba")))
	if got := Sum("a", "b"); got != ab {
		t.Errorf("Sum(a, b) = %x, want %x", got, ab)
	}
	if got := Sum("b", "a"); got != ba {
		t.Errorf("Sum(b, a) = %x, want %x", got, ba)
	}
}

func TestSumDoesNotHangOnACut(t *testing.T) {
	for _, n := range edges {
		s := mixedText(n)
		want := api.Id(sha256.Sum256([]byte(s)))
		for i := range n + 1 {
			for _, parts := range [][]string{{s[:i], s[i:]}, {"", s[:i], "", s[i:], ""}, {s[:i/2], s[i/2 : i], s[i:]}} {
				if got := Sum(parts...); got != want {
					t.Errorf("Sum of %d bytes cut at %d into %d texts = %x, want %x", n, i, len(parts), got, want)
				}
			}
		}
	}
}

func TestSumOfEqualPieces(t *testing.T) {
	s := mixedText(515)
	want := api.Id(sha256.Sum256([]byte(s)))
	for size := 1; size <= len(s); size++ {
		var parts []string
		for piece := range slices.Chunk([]byte(s), size) {
			parts = append(parts, string(piece))
		}
		if got := Sum(parts...); got != want {
			t.Errorf("Sum of pieces of %d bytes = %x, want %x", size, got, want)
		}
	}
}

func TestSumKeepsAndChangesNothing(t *testing.T) {
	parts := []string{mixedText(70), "", mixedText(3)}
	was := slices.Clone(parts)
	first := Sum(parts...)
	Sum("something", "else")
	if Sum(parts...) != first || !slices.Equal(parts, was) {
		t.Error("a second call tells something else, or the texts were changed")
	}
}

func TestBlocksAtItsEdges(t *testing.T) {
	for _, c := range []struct {
		n, want int
		e       api.Errno
	}{
		{0, 1, api.OK},
		{1, 1, api.OK},
		{55, 1, api.OK},
		{56, 2, api.OK},
		{63, 2, api.OK},
		{64, 2, api.OK},
		{119, 2, api.OK},
		{120, 3, api.OK},
		{1000000, 15626, api.OK},
		{1<<40 - 9, 1 << 34, api.OK},
		{1<<40 - 8, 1<<34 + 1, api.OK},
		{1 << 40, 1<<34 + 1, api.OK},
		{1<<40 + 1, 0, api.ErrArg},
		{math.MaxInt, 0, api.ErrArg},
		{-1, 0, api.ErrArg},
		{-8, 0, api.ErrArg},
		{-64, 0, api.ErrArg},
		{math.MinInt, 0, api.ErrArg},
	} {
		if got, e := Blocks(c.n); got != c.want || e != c.e {
			t.Errorf("Blocks(%d) = %d, %d, want %d, %d", c.n, got, e, c.want, c.e)
		}
	}
}

func TestBlocksCountsWhatSumGoesThrough(t *testing.T) {
	for n := range 400 {
		count := 0
		for range blocks([]string{mixedText(n)}) {
			count++
		}
		if got, e := Blocks(n); got != count || e != api.OK {
			t.Errorf("Blocks(%d) = %d, %d, but %d are handed on", n, got, e, count)
		}
	}
}

func TestBlocksAreThoseOfTheChapter(t *testing.T) {
	for _, n := range edges {
		s := mixedText(n)
		want := append([]byte(s), 128)
		for len(want)%64 != 56 {
			want = append(want, 0)
		}
		want = append(want, 0, 0, 0, 0, 0, 0, byte(8*n>>8), byte(8*n))
		var got []byte
		for b := range blocks([]string{s[:n/3], s[n/3:]}) {
			got = append(got, b[:]...)
		}
		if !slices.Equal(got, want) {
			t.Errorf("the blocks of %q = %x, want %x", s, got, want)
		}
	}
}

func TestBlocksAreHandedOnNoFurtherThanWanted(t *testing.T) {
	for _, n := range edges {
		all, _ := Blocks(n)
		for want := 1; want <= all; want++ {
			count := 0
			for range blocks([]string{mixedText(n)}) {
				if count++; count == want {
					break
				}
			}
			if count != want {
				t.Errorf("of the blocks of %d bytes, %d came, want %d", n, count, want)
			}
		}
	}
}

func firstPrimes(n int) []int64 {
	var primes []int64
	for p := int64(2); len(primes) < n; p++ {
		if big.NewInt(p).ProbablyPrime(0) {
			primes = append(primes, p)
		}
	}
	return primes
}

// isRoot tells whether the word is what stands behind the point of the root, of that degree, of p: no whole part of such a root is above 31.
func isRoot(word uint32, p int64, degree int64) bool {
	scaled := new(big.Int).Lsh(big.NewInt(p), uint(32*degree))
	for whole := range int64(32) {
		low := big.NewInt(whole<<32 | int64(word))
		next := new(big.Int).Add(low, big.NewInt(1))
		low.Exp(low, big.NewInt(degree), nil)
		next.Exp(next, big.NewInt(degree), nil)
		if low.Cmp(scaled) <= 0 && scaled.Cmp(next) < 0 {
			return true
		}
	}
	return false
}

func TestTheConstantsAreRootsOfPrimes(t *testing.T) {
	for i, p := range firstPrimes(len(roundConstants)) {
		if !isRoot(roundConstants[i], p, 3) {
			t.Errorf("K[%d] = %08x is not of the cube root of %d", i, roundConstants[i], p)
		}
		if i < len(begins) && !isRoot(begins[i], p, 2) {
			t.Errorf("H[%d] = %08x is not of the square root of %d", i, begins[i], p)
		}
	}
}
