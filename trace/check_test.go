package trace

import (
	"math"
	"slices"
	"strings"
	"testing"

	"posthouse/api"
)

const maxTick = 1 << 40

// notes is a row of notes, what they are, and what Check says of them.
type notes struct {
	what  string
	l     []api.Note
	place int
	err   api.Errno
}

func right(what string, l ...api.Note) notes { return notes{what, l, len(l), api.OK} }

func wrong(what string, place int, l ...api.Note) notes { return notes{what, l, place, api.ErrProof} }

// a and b are triggers, to host 1 and to an identifier.
func a() api.Trigger { return trig(place(50), toHost(1), 100) }

func b() api.Trigger { return trig(place(60), toId(place(50)), 200) }

func checked(t *testing.T, cases ...notes) {
	t.Helper()
	for _, c := range cases {
		was := slices.Clone(c.l)
		if place, err := Check(c.l); place != c.place || err != c.err {
			t.Errorf("%s: %d, %d, want %d, %d", c.what, err, place, c.err, c.place)
		}
		if place, err := modelCheck(c.l); place != c.place || err != c.err {
			t.Errorf("%s: the model has %d, %d", c.what, err, place)
		}
		if !slices.Equal(c.l, was) {
			t.Errorf("%s: changed to %+v", c.what, c.l)
		}
	}
}

func TestCheck(t *testing.T) {
	checked(t,
		notes{"nothing", nil, 0, api.OK},
		right("a list of nothing", []api.Note{}...),
		wrong("the chapter's example", 0, get(0, 1, 1, "hi")),
		right("sent to a host", send(3, 2, 7, "hi"), on(3, 5, 7, 8, none()), get(4, 1, 8, "hi")),
		right("sent by triggers", admit(1, 5, a()), admit(2, 3, b()), send(3, 2, 7, "hi"), on(3, 3, 7, 8, b()), on(4, 5, 8, 9, a()), get(4, 1, 9, "hi")),
		right("all of it twice", send(3, 2, 7, "hi"), on(3, 5, 7, 8, none()), on(3, 5, 7, 9, none()), get(4, 1, 8, "hi"), get(4, 1, 8, "hi"), get(4, 1, 9, "hi")),
		right("two that are sent", send(3, 2, 7, "hi"), send(3, 1, 9, "ho"), get(3, 1, 9, "ho"), get(3, 2, 7, "hi")),
		right("letters of no order", send(3, 2, 70, "hi"), on(3, 5, 70, 2, none()), on(3, 5, 2, 40, none()), get(4, 1, 40, "hi")),
		right("lost on the way", send(3, 2, 7, "hi"), lost(3, 5, 7, api.ErrDown), on(3, 5, 7, 8, none())),
	)
}

func TestCheckOfKinds(t *testing.T) {
	for _, kind := range []int{0, 6, 7, -1, 256 + api.NAdmit, math.MinInt, math.MaxInt} {
		n := api.Note{Kind: kind, At: 3, Was: 7, Letter: 8, Data: "hi", Trigger: a()}
		checked(t,
			wrong("another kind alone", 0, n),
			wrong("another kind behind all", 2, send(3, 2, 7, "hi"), admit(3, 5, a()), n),
			wrong("another kind ahead of all", 0, n, send(3, 2, 7, "hi")),
		)
	}
	// Fields that a kind's words do not name are not looked at.
	full := api.Note{At: 3, No: 99, Was: 7, Letter: 8, Trigger: trig(place(1), toHost(99), -5), Data: strings.Repeat("x", 99), Why: 77}
	of := func(kind int, change func(n *api.Note)) api.Note {
		n := full
		n.Kind = kind
		change(&n)
		return n
	}
	same := func(n *api.Note) {}
	checked(t,
		right("NSend with all fields", of(api.NSend, same)),
		right("NAdmit with all fields", of(api.NAdmit, same)),
		right("NLost with all fields", of(api.NLost, same)),
		right("NOn with all fields", send(3, 1, 7, "hi"), of(api.NOn, func(n *api.Note) { n.Trigger = none() })),
		right("NGet with all fields", send(3, 1, 7, "hi"), of(api.NGet, func(n *api.Note) { n.Data = "hi" })),
		wrong("what NSend was is not known by it", 1, of(api.NSend, same), get(3, 1, 7, full.Data)),
		right("what NSend has is known by it", of(api.NSend, same), get(3, 1, 8, full.Data)),
		wrong("a trigger of NSend is not admitted", 2, send(3, 1, 1, "hi"), of(api.NSend, func(n *api.Note) { n.Trigger = a() }), on(3, 1, 1, 2, a())),
		wrong("a trigger of NLost is not admitted", 2, send(3, 1, 1, "hi"), of(api.NLost, func(n *api.Note) { n.Trigger = a() }), on(3, 1, 1, 2, a())),
		wrong("a trigger of NGet is not admitted", 2, send(3, 1, 7, "hi"), of(api.NGet, func(n *api.Note) { n.Trigger, n.Data = a(), "hi" }), on(3, 1, 7, 2, a())),
		wrong("a letter of NAdmit is not known", 1, of(api.NAdmit, same), get(3, 1, 8, full.Data)),
		wrong("a letter of NLost is not known", 1, of(api.NLost, same), get(3, 1, 8, full.Data)),
		wrong("what was lost is not known", 1, of(api.NLost, same), get(3, 1, 7, full.Data)),
		wrong("a letter of NGet is not known", 2, send(3, 1, 7, "hi"), of(api.NGet, func(n *api.Note) { n.Data = "hi" }), get(3, 1, 8, "hi")),
		right("letters of others are free", of(api.NAdmit, same), of(api.NLost, same), send(3, 1, 7, "hi"), of(api.NGet, func(n *api.Note) { n.Data = "hi" }), send(3, 1, 8, "ho")),
	)
}

// TestCheckOfWhatIsSent is of numbers that a letter may not have, or that it may have once.
func TestCheckOfWhatIsSent(t *testing.T) {
	for _, no := range []int{0, -1, math.MinInt} {
		checked(t,
			wrong("sent with a wrong number", 0, send(0, 1, no, "hi")),
			wrong("on with a wrong number", 1, send(0, 1, 5, "hi"), on(0, 1, 5, no, none())),
			wrong("on from a wrong number", 1, send(0, 1, 5, "hi"), on(0, 1, no, 6, none())),
			wrong("got of a wrong number", 1, send(0, 1, 5, "hi"), get(0, 1, no, "hi")),
			wrong("got of a wrong number, of no data", 1, send(0, 1, 5, ""), get(0, 1, no, "")),
		)
	}
	for _, no := range []int{1, 2, maxTick, maxTick + 1, math.MaxInt} {
		checked(t,
			right("sent", send(0, 1, no, "hi"), get(0, 1, no, "hi")),
			right("on", send(0, 1, 5, "hi"), on(0, 1, 5, no, none()), get(0, 1, no, "hi")),
			wrong("sent twice", 1, send(0, 1, no, "hi"), send(0, 1, no, "hi")),
			wrong("sent twice, as another one", 1, send(0, 1, no, "hi"), send(0, 2, no, "ho")),
			wrong("sent when it went on", 2, send(0, 1, 5, "hi"), on(0, 1, 5, no, none()), send(0, 1, no, "hi")),
			wrong("on as one that was sent", 2, send(0, 1, 5, "hi"), send(0, 1, no, "hi"), on(0, 1, 5, no, none())),
			wrong("on as one that went on", 2, send(0, 1, 5, "hi"), on(0, 1, 5, no, none()), on(0, 1, 5, no, none())),
			wrong("on as itself", 1, send(0, 1, no, "hi"), on(0, 1, no, no, none())),
			wrong("on as itself, not known", 0, on(0, 1, no, no, none())),
		)
	}
}

// TestCheckOfWhatIsKnown is of letters that are known late, and of the data that they are known with.
func TestCheckOfWhatIsKnown(t *testing.T) {
	other := on(0, 1, 5, 6, none())
	other.Data = "other"
	swapped := get(0, 1, 0, "hi")
	swapped.Letter = 5
	checked(t,
		wrong("on too early", 0, on(0, 1, 5, 6, none()), send(0, 1, 5, "hi")),
		wrong("got too early", 0, get(0, 1, 5, "hi"), send(0, 1, 5, "hi")),
		wrong("got ahead of what goes on", 1, send(0, 1, 5, "hi"), get(0, 1, 6, "hi"), on(0, 1, 5, 6, none())),
		wrong("on from what is known later", 1, send(0, 1, 5, "hi"), on(0, 1, 7, 6, none()), on(0, 1, 5, 7, none())),
		wrong("on, the other way", 1, send(0, 1, 5, "hi"), on(0, 1, 6, 5, none())),
		wrong("got by its letter alone", 1, send(0, 1, 5, "hi"), swapped),
		wrong("other data", 1, send(0, 1, 5, "hi"), get(0, 1, 5, "ho")),
		wrong("no data", 1, send(0, 1, 5, "hi"), get(0, 1, 5, "")),
		wrong("some data", 1, send(0, 1, 5, ""), get(0, 1, 5, "hi")),
		wrong("data that goes further", 1, send(0, 1, 5, "hi"), get(0, 1, 5, "hi\x00")),
		wrong("data that ends earlier", 1, send(0, 1, 5, "hi\x00"), get(0, 1, 5, "hi")),
		right("empty data", send(0, 1, 5, ""), on(0, 1, 5, 6, none()), get(0, 1, 6, "")),
		right("data of all bytes", send(0, 1, 5, "\xff\x00\xc3"), on(0, 1, 5, 6, none()), get(0, 1, 6, "\xff\x00\xc3")),
		right("a note's own data is not the letter's", send(0, 1, 5, "hi"), other, get(0, 1, 6, "hi")),
		wrong("a note's own data is not got", 2, send(0, 1, 5, "hi"), other, get(0, 1, 6, "other")),
		wrong("another letter's data", 2, send(0, 1, 5, "hi"), send(0, 1, 7, "ho"), get(0, 1, 5, "ho")),
		wrong("another letter's data, far on", 4, send(0, 1, 5, "hi"), send(0, 1, 7, "ho"), on(0, 1, 5, 6, none()), on(0, 1, 6, 8, none()), get(0, 1, 8, "ho")),
		right("data, far on", send(0, 1, 5, "hi"), send(0, 1, 7, "ho"), on(0, 1, 5, 6, none()), on(0, 1, 6, 8, none()), get(0, 1, 8, "hi")),
		wrong("the first of several", 2, send(0, 1, 5, "hi"), on(0, 1, 5, 6, none()), on(0, 1, 5, 6, none()), get(0, 1, 9, ""), send(0, 1, 5, "hi")),
	)
}

// TestCheckOfTriggers is of triggers just as they were admitted, and of those that are another one in one thing.
func TestCheckOfTriggers(t *testing.T) {
	one := trig(place(50), api.Entry{Kind: api.EHost, Id: place(9), Host: 1}, 100)
	with := func(change func(x *api.Trigger)) api.Trigger {
		x := one
		change(&x)
		return x
	}
	by := func(x, y api.Trigger) []api.Note {
		return []api.Note{send(3, 1, 5, "hi"), admit(3, 9, x), on(3, 2, 5, 6, y)}
	}
	for what, x := range map[string]api.Trigger{
		"identifier, at its begin":     with(func(x *api.Trigger) { x.Id[0]++ }),
		"identifier, at its end":       with(func(x *api.Trigger) { x.Id[31]++ }),
		"target's kind":                with(func(x *api.Trigger) { x.Target.Kind = api.EId }),
		"target's identifier":          with(func(x *api.Trigger) { x.Target.Id[20] = 4 }),
		"target's host":                with(func(x *api.Trigger) { x.Target.Host = 2 }),
		"time, by one more":            with(func(x *api.Trigger) { x.Until++ }),
		"time, by one less":            with(func(x *api.Trigger) { x.Until-- }),
		"all but its time":             {Until: 100},
		"time, and all else as no one": {Until: 4},
	} {
		checked(t,
			right("another "+what+", admitted", by(x, x)...),
			wrong("another "+what, 2, by(one, x)...),
			wrong("another "+what+", the other way", 2, by(x, one)...),
		)
	}
	checked(t,
		right("by one", by(one, one)...),
		right("by none", by(one, none())...),
		right("by none, admitted", by(none(), none())...),
		wrong("by one, admitted later", 1, send(3, 1, 5, "hi"), on(3, 2, 5, 6, one), admit(3, 9, one)),
		wrong("by one, never admitted", 1, send(3, 1, 5, "hi"), on(3, 2, 5, 6, one)),
		right("by one, long admitted", admit(-3, 9, one), admit(0, 9, b()), send(3, 1, 5, "hi"), on(3, 2, 5, 6, one)),
		right("by one, admitted twice", admit(1, 9, one), admit(2, 9, one), send(3, 1, 5, "hi"), on(3, 2, 5, 6, one), on(3, 2, 5, 7, one)),
		right("by one, admitted for longer then", admit(1, 9, one), admit(2, 9, with(func(x *api.Trigger) { x.Until = 900 })), send(3, 1, 5, "hi"), on(3, 2, 5, 6, one)),
		wrong("by one, but nothing is known", 1, admit(3, 9, one), on(3, 2, 5, 6, one)),
		wrong("by one, but not as a new letter", 2, admit(3, 9, one), send(3, 1, 5, "hi"), on(3, 2, 5, 5, one)),
	)
}

// TestCheckOfTriggersTimes is of times just when a trigger's is over.
func TestCheckOfTriggersTimes(t *testing.T) {
	for _, at := range []int{-7, 0, 1, 100, maxTick, math.MaxInt - 1} {
		for _, c := range []struct {
			until int
			lives bool
		}{{at + 1, true}, {at, false}, {at - 1, false}, {-9, false}, {math.MaxInt, true}, {math.MinInt, false}} {
			x := trig(place(50), toHost(1), c.until)
			l := []api.Note{admit(at, 9, x), send(at, 1, 5, "hi"), on(at, 2, 5, 6, x)}
			if c.lives {
				checked(t, right("one that lives", l...))
			} else {
				checked(t, wrong("one whose time is over", 2, l...))
			}
		}
		checked(t,
			right("by none, at any time", send(at, 1, 5, "hi"), on(at, 2, 5, 6, none())),
			right("by one whose time was over when it was admitted", admit(at, 9, trig(place(50), toHost(1), at-1)), send(at, 1, 5, "hi")),
		)
	}
	// Its time is held against that of the note that goes on by it, and not of the one that admits it.
	checked(t,
		right("just in time", admit(3, 9, a()), send(4, 1, 5, "hi"), on(99, 2, 5, 6, a()), get(100, 1, 6, "hi")),
		wrong("just too late", 2, admit(3, 9, a()), send(4, 1, 5, "hi"), on(100, 2, 5, 6, a()), get(100, 1, 6, "hi")),
		wrong("in time, and then too late", 3, admit(3, 9, a()), send(4, 1, 5, "hi"), on(99, 2, 5, 6, a()), on(100, 2, 5, 7, a())),
	)
}

// TestCheckOfTime is of notes of all kinds just at, behind and ahead of the time of the one ahead.
func TestCheckOfTime(t *testing.T) {
	for _, n := range []api.Note{send(0, 1, 8, ""), admit(0, 5, a()), on(0, 5, 7, 8, none()), get(0, 1, 7, "hi"), lost(0, 5, 7, api.ErrDown)} {
		for _, at := range []int{math.MinInt, -4, 0, 50, maxTick, math.MaxInt} {
			first := send(at, 1, 7, "hi")
			n.At = at
			checked(t, right("as late", first, n), right("as late, behind another one", first, admit(at, 5, b()), n))
			if at < math.MaxInt {
				n.At = at + 1
				checked(t, right("later", first, n))
			}
			if at > math.MinInt {
				n.At = at - 1
				checked(t, wrong("earlier", 1, first, n), wrong("earlier than the one ahead", 2, first, admit(at, 5, b()), n), wrong("earlier than one that is lost", 2, first, lost(at, 5, 0, api.ErrFull), n))
			}
		}
	}
	checked(t,
		right("the first one ahead of 0", admit(-5, 5, a()), admit(-5, 5, a()), admit(-4, 5, a())),
		wrong("the first one's time, again", 2, admit(1, 5, a()), admit(3, 5, a()), admit(2, 5, a())),
		wrong("below the one ahead, above the first", 3, send(1, 1, 7, "hi"), admit(1, 5, a()), on(3, 5, 7, 8, a()), get(2, 1, 8, "hi")),
		wrong("the last time, and the first one", 1, lost(math.MaxInt, 5, 7, api.ErrDown), lost(math.MinInt, 5, 7, api.ErrDown)),
	)
}

// long is so many notes, all justified: one letter that goes on and on.
func long(many int) []api.Note {
	l := []api.Note{send(1, 2, 1, "hi")}
	for no := 2; no <= many; no++ {
		l = append(l, on(no, 3, no-1, no, none()))
	}
	return l
}

func TestCheckOfMany(t *testing.T) {
	got := append(long(999), get(1000, 1, 999, "hi"))
	checked(t,
		right("999", long(999)...),
		right("1000", long(1000)...),
		right("1000, the last one got", got...),
		notes{"1001", long(1001), 0, api.ErrLong},
		notes{"5000", long(5000), 0, api.ErrLong},
		notes{"1001 of which none is justified", slices.Repeat([]api.Note{get(0, 1, 1, "hi")}, 1001), 0, api.ErrLong},
		notes{"1001 of which the last one is not justified", append(long(1000), get(0, 1, 0, "")), 0, api.ErrLong},
		wrong("1000 of which none is justified", 0, slices.Repeat([]api.Note{get(0, 1, 1, "hi")}, 1000)...),
		wrong("1000 of which the last one is not justified", 999, append(long(999), get(1000, 1, 998, "ho"))...),
	)
}
