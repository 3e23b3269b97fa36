package trace

import (
	"math"
	"slices"
	"testing"

	"posthouse/api"
)

// tree is of three letters that are sent, 10, 20 and 30, by the hosts 4, 5 and 6, and of what came of them: of 10 many, of 20 one, of 30 none.
func tree() []api.Note {
	return []api.Note{
		admit(1, 8, a()), admit(1, 9, b()), // 0, 1
		send(2, 4, 10, "hi"),     // 2
		on(2, 9, 10, 11, b()),    // 3
		send(2, 5, 20, "ho"),     // 4
		on(3, 8, 11, 12, none()), // 5
		on(3, 8, 12, 13, a()),    // 6
		get(3, 1, 13, "hi"),      // 7
		on(4, 8, 12, 14, none()), // 8
		get(4, 2, 14, "hi"),      // 9
		on(4, 9, 13, 15, b()),    // 10
		on(4, 9, 15, 16, b()),    // 11
		on(4, 9, 20, 21, none()), // 12
		get(4, 3, 21, "ho"),      // 13
		send(5, 6, 30, "he"),     // 14
		lost(5, 1, 16, api.ErrFull),
		get(6, 1, 16, "hi"), // 16
		get(6, 1, 13, "hi"), // 17, of a letter that came twice
		get(6, 6, 30, "he"), // 18, of a letter that no server had
		get(6, 9, 11, "hi"), // 19
	}
}

func chain(t *testing.T, l []api.Note, at int) ([]api.Trigger, int, api.Errno) {
	t.Helper()
	was := slices.Clone(l)
	by, no, err := Chain(l, at)
	want, from, e := modelChain(l, at)
	if !slices.Equal(by, want) || no != from || err != e {
		t.Fatalf("%d of %+v: %d, %d, %+v, want %d, %d, %+v", at, l, err, no, by, e, from, want)
	}
	if !slices.Equal(l, was) {
		t.Fatalf("%d of %+v: changed to %+v", at, was, l)
	}
	return by, no, err
}

func TestChain(t *testing.T) {
	l := tree()
	for at, c := range map[int]struct {
		by []api.Trigger
		no int
	}{
		7:  {[]api.Trigger{b(), a()}, 4},
		9:  {[]api.Trigger{b()}, 4},
		13: {nil, 5},
		16: {[]api.Trigger{b(), a(), b(), b()}, 4},
		17: {[]api.Trigger{b(), a()}, 4},
		18: {nil, 6},
		19: {[]api.Trigger{b()}, 4},
	} {
		by, no, err := chain(t, l, at)
		if !slices.Equal(by, c.by) || no != c.no || err != api.OK {
			t.Errorf("%d: %d, %d, %+v, want %d, %+v", at, err, no, by, c.no, c.by)
		}
	}
}

// TestChainOfWhatIsNot is of places where there is no note, or none of what a host got.
func TestChainOfWhatIsNot(t *testing.T) {
	l := tree()
	gets := 0
	for at := -30; at < 60; at++ {
		by, no, err := chain(t, l, at)
		if at >= 0 && at < len(l) && l[at].Kind == api.NGet {
			gets++
		} else if err != api.ErrNone || no != 0 || len(by) > 0 {
			t.Errorf("%d: %d, %d, %+v", at, err, no, by)
		}
	}
	for _, at := range []int{math.MinInt, math.MinInt + 1, math.MaxInt, len(l), -1, 1 << 32} {
		if by, no, err := chain(t, l, at); err != api.ErrNone || no != 0 || len(by) > 0 {
			t.Errorf("%d: %d, %d, %+v", at, err, no, by)
		}
	}
	for _, at := range []int{-1, 0, 1} {
		if by, no, err := chain(t, nil, at); err != api.ErrNone || no != 0 || len(by) > 0 {
			t.Errorf("%d of nothing: %d, %d, %+v", at, err, no, by)
		}
	}
	if gets != 7 {
		t.Errorf("%d places", gets)
	}
}

// TestChainOfFields has notes in which all fields are told that count for nothing.
func TestChainOfFields(t *testing.T) {
	sent := send(2, 4, 10, "hi")
	sent.Was, sent.Trigger, sent.Why = 10, a(), 5
	on := on(2, 9, 10, 11, b())
	on.Data, on.Why = "ho", 4
	got := get(3, 1, 11, "hi")
	got.Letter, got.Trigger = 10, a()
	by, no, err := chain(t, []api.Note{admit(1, 8, b()), sent, on, got}, 3)
	if !slices.Equal(by, []api.Trigger{b()}) || no != 4 || err != api.OK {
		t.Errorf("%d, %d, %+v", err, no, by)
	}
	// Nobody asks which numbers there may be.
	for _, no := range []int{0, 16, -1, math.MinInt, math.MaxInt} {
		if by, from, err := chain(t, []api.Note{send(2, no, 10, "hi"), get(3, 3, 10, "hi")}, 1); len(by) > 0 || from != no || err != api.OK {
			t.Errorf("%d: %d, %d, %+v", no, err, from, by)
		}
	}
	// A trigger that is none stays none, even if one is admitted that is like it; one that is nearly none does not.
	nearly := api.Trigger{Until: 900}
	by, _, err = chain(t, []api.Note{admit(1, 8, none()), admit(1, 8, nearly), sent, {Kind: api.NOn, At: 2, Was: 10, Letter: 11}, {Kind: api.NOn, At: 2, Was: 11, Letter: 12, Trigger: nearly}, get(3, 1, 12, "hi")}, 5)
	if !slices.Equal(by, []api.Trigger{nearly}) || err != api.OK {
		t.Errorf("%d, %+v", err, by)
	}
}

// TestErrorsOfOthers has Chain and Cost tell Check's error ahead of their own, and nothing beside it.
func TestErrorsOfOthers(t *testing.T) {
	for what, c := range map[string]struct {
		l   []api.Note
		err api.Errno
	}{
		"a note of no kind behind": {append(tree(), api.Note{At: 9}), api.ErrProof},
		"one not justified ahead":  {append([]api.Note{get(0, 1, 10, "hi")}, tree()...), api.ErrProof},
		"one alone":                {[]api.Note{get(0, 1, 10, "hi")}, api.ErrProof},
		"too late":                 {append(tree(), get(5, 1, 13, "hi")), api.ErrProof},
		"1001":                     {append(tree(), slices.Repeat([]api.Note{lost(9, 1, 1, 1)}, 1001-len(tree()))...), api.ErrLong},
		"1001, not justified":      {append(tree(), slices.Repeat([]api.Note{{}}, 1001-len(tree()))...), api.ErrLong},
	} {
		for _, at := range []int{0, 2, 7, 16, 19, -1, 1000, 1001, 2000, math.MinInt, math.MaxInt} {
			if by, no, err := chain(t, c.l, at); err != c.err || no != 0 || len(by) > 0 {
				t.Errorf("%s, chain of %d: %d, %d, %+v", what, at, err, no, by)
			}
		}
		for _, letter := range []int{10, 20, 30, 11, 0, -1, 99, math.MinInt, math.MaxInt} {
			if many, err := cost(t, c.l, letter); err != c.err || many != 0 {
				t.Errorf("%s, cost of %d: %d, %d", what, letter, err, many)
			}
		}
	}
	just := append(tree(), slices.Repeat([]api.Note{lost(9, 1, 1, 1)}, 1000-len(tree()))...)
	if by, no, err := chain(t, just, 7); err != api.OK || no != 4 || len(by) != 2 {
		t.Errorf("of 1000: %d, %d, %+v", err, no, by)
	}
	if many, err := cost(t, just, 10); err != api.OK || many != 7 {
		t.Errorf("of 1000: %d, %d", err, many)
	}
}

// TestLong is of one letter that goes on and on, by many triggers, each of which is another one.
func TestLong(t *testing.T) {
	var admitted, went []api.Note
	var want []api.Trigger
	for i := range 499 {
		x := trig(place(byte(i)), toHost(i/256), 1000+i)
		want = append(want, x)
		admitted, went = append(admitted, admit(1, 5, x)), append(went, on(2, 5, i+1, i+2, x))
	}
	l := slices.Concat(admitted, []api.Note{send(2, 4, 1, "hi")}, went, []api.Note{get(2, 1, 500, "hi")})
	if by, no, err := chain(t, l, 999); !slices.Equal(by, want) || no != 4 || err != api.OK {
		t.Errorf("%d, %d, %+v", err, no, by)
	}
	if many, err := cost(t, l, 1); many != 500 || err != api.OK {
		t.Errorf("%d, %d", err, many)
	}
	if many, err := cost(t, long(1000), 1); many != 1000 || err != api.OK {
		t.Errorf("%d, %d", err, many)
	}
	wide := []api.Note{send(2, 4, 1, "hi")}
	for no := 2; no <= 1000; no++ {
		wide = append(wide, on(2, 5, 1, no, none()))
	}
	if many, err := cost(t, wide, 1); many != 1000 || err != api.OK {
		t.Errorf("%d, %d", err, many)
	}
}

// TestNewMemory changes what is answered: what is answered next is as it was.
func TestNewMemory(t *testing.T) {
	l := tree()
	first, _, _ := Chain(l, 16)
	for i := range first {
		first[i] = none()
	}
	_ = append(first[:0], a(), a(), a(), a())
	if by, _, _ := Chain(l, 16); !slices.Equal(by, []api.Trigger{b(), a(), b(), b()}) || !slices.Equal(l, tree()) {
		t.Errorf("%+v, %+v", by, l)
	}
}

func cost(t *testing.T, l []api.Note, letter int) (int, api.Errno) {
	t.Helper()
	was := slices.Clone(l)
	many, err := Cost(l, letter)
	if want, e := modelCost(l, letter); many != want || err != e {
		t.Fatalf("%d of %+v: %d, %d, want %d, %d", letter, l, err, many, e, want)
	}
	if !slices.Equal(l, was) {
		t.Fatalf("%d of %+v: changed to %+v", letter, was, l)
	}
	return many, err
}

func TestCost(t *testing.T) {
	l := tree()
	sent := map[int]int{10: 7, 20: 2, 30: 1}
	for letter := -50; letter < 100; letter++ {
		many, err := cost(t, l, letter)
		if want, is := sent[letter]; is && (many != want || err != api.OK) || !is && (many != 0 || err != api.ErrNone) {
			t.Errorf("%d: %d, %d, want %d", letter, err, many, want)
		}
	}
	for _, letter := range []int{math.MinInt, math.MaxInt, 1<<32 + 10} {
		if many, err := cost(t, l, letter); many != 0 || err != api.ErrNone {
			t.Errorf("%d: %d, %d", letter, err, many)
		}
	}
	for _, letter := range []int{0, 1, -1} {
		if many, err := cost(t, nil, letter); many != 0 || err != api.ErrNone {
			t.Errorf("%d of nothing: %d, %d", letter, err, many)
		}
		if many, err := cost(t, []api.Note{admit(0, 1, a()), lost(0, 1, 1, api.ErrDown)}, letter); many != 0 || err != api.ErrNone {
			t.Errorf("%d of nothing sent: %d, %d", letter, err, many)
		}
	}
	// What a letter that was sent tells of another one counts for nothing.
	with := send(0, 1, 9, "ho")
	with.Was = 8
	if many, err := cost(t, []api.Note{send(0, 1, 8, "hi"), with, on(0, 2, 9, 10, none())}, 8); many != 1 || err != api.OK {
		t.Errorf("%d, %d", err, many)
	}
	if many, err := cost(t, []api.Note{send(0, 1, math.MaxInt, "hi"), on(0, 2, math.MaxInt, 1, none())}, math.MaxInt); many != 2 || err != api.OK {
		t.Errorf("%d, %d", err, many)
	}
}
