package ident

import (
	"math/big"
	"strings"
	"testing"

	"posthouse/api"
)

var ringSize = new(big.Int).Lsh(big.NewInt(1), 256)

func number(a api.Id) *big.Int { return new(big.Int).SetBytes(a[:]) }

// fromNumber goes round the ring, so that a number may be below 0 or behind its end.
func fromNumber(n *big.Int) api.Id {
	var a api.Id
	new(big.Int).Mod(n, ringSize).FillBytes(a[:])
	return a
}

func power(k int) *big.Int { return new(big.Int).Lsh(big.NewInt(1), uint(k)) }

func filled(b byte) api.Id {
	var a api.Id
	for i := range a {
		a[i] = b
	}
	return a
}

// someIds has the ring's ends, the borders between bytes, and identifiers of mixed bytes.
func someIds() []api.Id {
	l := []api.Id{{}, {31: 1}, {31: 5}, {31: 255}, {30: 1}, {0: 1}, {0: 127}, {0: 128}, {15: 1}, {16: 128}, filled(255), filled(127), filled(85)}
	for _, k := range []int{8, 64, 128, 255} {
		below := new(big.Int).Sub(power(k), big.NewInt(1))
		l = append(l, fromNumber(below), fromNumber(power(k)), fromNumber(new(big.Int).Neg(power(k))))
	}
	mixed := uint32(1)
	for range 6 {
		var a api.Id
		for i := range a {
			mixed = mixed*1664525 + 1013904223
			a[i] = byte(mixed >> 24)
		}
		l = append(l, a)
	}
	return l
}

func TestCompareIsTheOrderOfNumbers(t *testing.T) {
	for _, a := range someIds() {
		for _, b := range someIds() {
			if got, want := Compare(a, b), number(a).Cmp(number(b)); got != want {
				t.Errorf("Compare(%x, %x) = %d, want %d", a, b, got, want)
			}
		}
	}
}

func TestCompareGivesTheHighestByteTheMostWeight(t *testing.T) {
	for _, c := range []struct {
		a, b api.Id
		want int
	}{
		{api.Id{}, api.Id{}, 0},
		{filled(255), filled(255), 0},
		{api.Id{}, filled(255), -1},
		{filled(255), api.Id{}, 1},
		{api.Id{0: 1}, api.Id{31: 9}, 1},
		{api.Id{1: 255, 31: 255}, api.Id{0: 1}, -1},
		{api.Id{0: 128}, api.Id{0: 127}, 1},
		{api.Id{31: 1}, api.Id{31: 255}, -1},
	} {
		if got := Compare(c.a, c.b); got != c.want {
			t.Errorf("Compare(%x, %x) = %d, want %d", c.a, c.b, got, c.want)
		}
	}
}

func TestFarIsTheDifferenceRoundTheRing(t *testing.T) {
	for _, a := range someIds() {
		for _, b := range someIds() {
			want := fromNumber(new(big.Int).Sub(number(b), number(a)))
			if got := Far(a, b); got != want {
				t.Errorf("Far(%x, %x) = %x, want %x", a, b, got, want)
			}
		}
	}
}

func TestFarGoesRoundTheRingsEnd(t *testing.T) {
	for _, c := range []struct{ a, b, want api.Id }{
		{filled(255), api.Id{}, api.Id{31: 1}},
		{filled(255), api.Id{31: 5}, api.Id{31: 6}},
		{api.Id{31: 1}, api.Id{}, filled(255)},
		{api.Id{}, filled(255), filled(255)},
		{api.Id{0: 128}, api.Id{}, api.Id{0: 128}},
		{api.Id{31: 1}, api.Id{30: 1}, api.Id{31: 255}},
		{filled(85), filled(85), api.Id{}},
		{filled(255), filled(255), api.Id{}},
	} {
		if got := Far(c.a, c.b); got != c.want {
			t.Errorf("Far(%x, %x) = %x, want %x", c.a, c.b, got, c.want)
		}
	}
}

func TestStepAddsAPowerOfTwo(t *testing.T) {
	for _, a := range someIds() {
		for k := range 256 {
			want := fromNumber(new(big.Int).Add(number(a), power(k)))
			if got, e := Step(a, k); got != want || e != api.OK {
				t.Errorf("Step(%x, %d) = %x, %d, want %x", a, k, got, e, want)
			}
		}
	}
}

func TestStepAtItsEdges(t *testing.T) {
	for _, c := range []struct {
		a    api.Id
		k    int
		want api.Id
		e    api.Errno
	}{
		{api.Id{}, 0, api.Id{31: 1}, api.OK},
		{api.Id{}, 7, api.Id{31: 128}, api.OK},
		{api.Id{}, 8, api.Id{30: 1}, api.OK},
		{api.Id{}, 255, api.Id{0: 128}, api.OK},
		{api.Id{0: 128}, 255, api.Id{}, api.OK},
		{api.Id{0: 128, 31: 7}, 255, api.Id{31: 7}, api.OK},
		{filled(255), 0, api.Id{}, api.OK},
		{api.Id{31: 255}, 0, api.Id{30: 1}, api.OK},
		{filled(85), -1, api.Id{}, api.ErrArg},
		{filled(85), 256, api.Id{}, api.ErrArg},
		{filled(85), 1 << 62, api.Id{}, api.ErrArg},
		{filled(85), -1 << 63, api.Id{}, api.ErrArg},
	} {
		if got, e := Step(c.a, c.k); got != c.want || e != c.e {
			t.Errorf("Step(%x, %d) = %x, %d, want %x, %d", c.a, c.k, got, e, c.want, c.e)
		}
	}
}

// onTheWay is the chapter's definition, in numbers.
func onTheWay(x, a, b api.Id) bool {
	toX := number(fromNumber(new(big.Int).Sub(number(x), number(a))))
	toB := number(fromNumber(new(big.Int).Sub(number(b), number(a))))
	return a == b || toX.Sign() != 0 && toX.Cmp(toB) <= 0
}

func TestInIsOnTheWay(t *testing.T) {
	for _, a := range someIds() {
		for _, b := range someIds() {
			for _, x := range someIds() {
				if got, want := In(x, a, b), onTheWay(x, a, b); got != want {
					t.Errorf("In(%x, %x, %x) = %t", x, a, b, got)
				}
			}
		}
	}
}

func TestInAtItsEdges(t *testing.T) {
	last := filled(255)
	for _, c := range []struct {
		x, a, b api.Id
		want    bool
	}{
		{api.Id{}, last, api.Id{31: 5}, true},
		{api.Id{31: 5}, last, api.Id{31: 5}, true},
		{api.Id{31: 6}, last, api.Id{31: 5}, false},
		{last, last, api.Id{31: 5}, false},
		{last, last, last, true},
		{api.Id{31: 9}, last, last, true},
		{api.Id{}, api.Id{}, api.Id{}, true},
		{api.Id{31: 3}, api.Id{31: 3}, api.Id{31: 7}, false},
		{api.Id{31: 4}, api.Id{31: 3}, api.Id{31: 7}, true},
		{api.Id{31: 7}, api.Id{31: 3}, api.Id{31: 7}, true},
		{api.Id{31: 8}, api.Id{31: 3}, api.Id{31: 7}, false},
		{api.Id{31: 5}, api.Id{31: 7}, api.Id{31: 3}, false},
		{last, api.Id{31: 7}, api.Id{31: 3}, true},
	} {
		if got := In(c.x, c.a, c.b); got != c.want {
			t.Errorf("In(%x, %x, %x) = %t", c.x, c.a, c.b, got)
		}
	}
}

func flipBit(a api.Id, k int) api.Id {
	a[k/8] ^= 128 >> (k % 8)
	return a
}

func flipFrom(a api.Id, k int) api.Id {
	for ; k < 256; k++ {
		a = flipBit(a, k)
	}
	return a
}

func TestCommonCountsBitsFromTheHighest(t *testing.T) {
	for _, a := range someIds() {
		if n := Common(a, a); n != 256 {
			t.Errorf("Common(%x, itself) = %d", a, n)
		}
		for k := range 256 {
			// What is behind the first unlike bit counts no more, like or unlike.
			for _, b := range []api.Id{flipBit(a, k), flipFrom(a, k)} {
				if n, m := Common(a, b), Common(b, a); n != k || m != k {
					t.Errorf("Common(%x, %x) = %d and %d, want %d", a, b, n, m, k)
				}
			}
		}
	}
}

func TestCommonAtItsEdges(t *testing.T) {
	for _, c := range []struct {
		a, b api.Id
		want int
	}{
		{api.Id{}, filled(255), 0},
		{api.Id{}, api.Id{0: 128}, 0},
		{api.Id{}, api.Id{1: 1}, 15},
		{api.Id{}, api.Id{16: 128}, 128},
		{api.Id{}, api.Id{15: 1}, 127},
		{api.Id{}, api.Id{31: 1}, 255},
		{filled(85), filled(85), 256},
	} {
		if n := Common(c.a, c.b); n != c.want {
			t.Errorf("Common(%x, %x) = %d, want %d", c.a, c.b, n, c.want)
		}
	}
}

func TestTextHasTheHighestDigitFirst(t *testing.T) {
	rising := api.Id{0x01, 0x23, 0x45, 0x67, 0x89, 0xab, 0xcd, 0xef}
	for _, c := range []struct {
		a    api.Id
		want string
	}{
		{api.Id{}, strings.Repeat("0", 64)},
		{filled(255), strings.Repeat("f", 64)},
		{rising, "0123456789abcdef" + strings.Repeat("0", 48)},
		{api.Id{31: 0x1c}, strings.Repeat("0", 62) + "1c"},
	} {
		if got := Text(c.a); got != c.want {
			t.Errorf("Text(%x) = %q, want %q", c.a, got, c.want)
		}
		if got, e := Parse(c.want); got != c.a || e != api.OK {
			t.Errorf("Parse(%q) = %x, %d, want %x", c.want, got, e, c.a)
		}
	}
}

func TestParseRefusesWhatHasAnotherLength(t *testing.T) {
	for n := range 200 {
		want := api.ErrHex
		if n == 64 {
			want = api.OK
		}
		if a, e := Parse(strings.Repeat("0", n)); e != want || a != (api.Id{}) {
			t.Errorf("Parse of %d digits = %x, %d", n, a, e)
		}
	}
	good := strings.Repeat("7", 64)
	for _, s := range []string{good + "\n", " " + good, "0x" + good, "0x" + good[2:], good[:63] + "é", good + good} {
		if a, e := Parse(s); e != api.ErrHex || a != (api.Id{}) {
			t.Errorf("Parse(%q) = %x, %d", s, a, e)
		}
	}
}

func TestParseRefusesEveryOtherByteAtEveryPlace(t *testing.T) {
	good := strings.Repeat("7", 64)
	for place := range 64 {
		for b := range 256 {
			s := good[:place] + string([]byte{byte(b)}) + good[place+1:]
			isDigit := b >= '0' && b <= '9' || b >= 'a' && b <= 'f'
			a, e := Parse(s)
			if isDigit && (e != api.OK || Text(a) != s) {
				t.Errorf("Parse(%q) = %x, %d", s, a, e)
			}
			if !isDigit && (e != api.ErrHex || a != (api.Id{})) {
				t.Errorf("Parse(%q) = %x, %d, want ErrHex and zero", s, a, e)
			}
		}
	}
}

func TestWaysAddUp(t *testing.T) {
	for _, a := range someIds() {
		for _, b := range someIds() {
			for _, c := range someIds() {
				sum := new(big.Int).Add(number(Far(a, b)), number(Far(b, c)))
				if fromNumber(sum) != Far(a, c) {
					t.Errorf("the ways from %x to %x to %x do not add up", a, b, c)
				}
			}
		}
	}
}

func TestAStepIsAWayOfAPowerOfTwo(t *testing.T) {
	for _, a := range someIds() {
		for k := range 256 {
			if b, _ := Step(a, k); Far(a, b) != fromNumber(power(k)) {
				t.Errorf("the way of Step(%x, %d) is %x", a, k, Far(a, b))
			}
		}
	}
}

func TestOfThreeEachIsOnTheWayOneWayRoundAlone(t *testing.T) {
	for _, a := range someIds() {
		for _, b := range someIds() {
			for _, x := range someIds() {
				if a == b || a == x || b == x {
					continue
				}
				if In(x, a, b) == In(x, b, a) {
					t.Errorf("%x is on both ways or none between %x and %x", x, a, b)
				}
			}
		}
	}
}

func TestWhatIsWrittenIsRead(t *testing.T) {
	for _, a := range someIds() {
		if len(Text(a)) != 64 {
			t.Errorf("Text(%x) has %d digits", a, len(Text(a)))
		}
		if b, e := Parse(Text(a)); b != a || e != api.OK {
			t.Errorf("Parse(Text(%x)) = %x, %d", a, b, e)
		}
	}
}
