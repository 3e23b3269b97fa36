package host

import (
	"math"
	"math/rand"
	"reflect"
	"slices"
	"strings"
	"testing"

	"posthouse/api"
	"posthouse/stack"
	"posthouse/wire"
)

// sameHost tells whether two hosts are the same.
func sameHost(a, b api.Host) bool {
	return a.No == b.No && a.Gate == b.Gate && slices.Equal(a.Wants, b.Wants) && slices.Equal(a.Hints, b.Hints) && slices.Equal(a.Inbox, b.Inbox)
}

func sameSend(a, b api.Send) bool { return a.To == b.To && a.By == b.By && wire.Like(a.Msg, b.Msg) }

// sameSends tells whether two rows of what is sent are the same.
func sameSends(a, b []api.Send) bool { return slices.EqualFunc(a, b, sameSend) }

func isZero(h api.Host) bool { return sameHost(h, api.Host{}) }

// wrongTimes are outside 0 to 2^40.
func wrongTimes() []int {
	return []int{-1, -2, -maxTick, maxTick + 1, 2 * maxTick, math.MaxInt, math.MinInt}
}

func TestNew(t *testing.T) {
	for _, no := range []int{math.MinInt, -16, -1, 0, 1, 7, 14, 15, 16, 17, 31, 256, 1 << 32, math.MaxInt} {
		for _, gate := range []int{math.MinInt, -16, -1, 0, 1, 7, 14, 15, 16, 17, 31, 256, 1 << 32, math.MaxInt} {
			got, err := New(no, gate)
			want, wantErr := api.Host{No: no, Gate: gate}, api.OK
			if no < 0 || no > 15 || gate < 0 || gate > 15 {
				want, wantErr = api.Host{}, api.ErrArg
			}
			if !sameHost(got, want) || err != wantErr {
				t.Errorf("%d, %d: %+v, %d", no, gate, got, err)
			}
		}
	}
	for no := range 16 {
		for gate := range 16 {
			if got, err := New(no, gate); !sameHost(got, api.Host{No: no, Gate: gate}) || err != api.OK {
				t.Errorf("%d, %d: %+v, %d", no, gate, got, err)
			}
		}
	}
}

func TestHostsThatMayBe(t *testing.T) {
	for _, h := range rightHosts() {
		if !Right(h) {
			t.Errorf("may not be: %+v", h)
		}
	}
	for _, h := range wrongHosts() {
		if Right(h) {
			t.Errorf("may be: %+v", h)
		}
	}
}

func TestWantByHand(t *testing.T) {
	last := func(n int, w api.Want) []api.Want { return append(wants(n), w) }
	for _, c := range []struct {
		what string
		h    api.Host
		id   api.Id
		life int
		want []api.Want
		err  api.Errno
	}{
		{"the first", sized(0, 0, 0), id(9), 5, []api.Want{wanted(id(9), 5)}, api.OK},
		{"one that begins ahead of the others", sized(3, 2, 1), api.Id{}, 5, last(3, wanted(api.Id{}, 5)), api.OK},
		{"one behind the others", sized(3, 2, 1), filled(255), 5, last(3, wanted(filled(255), 5)), api.OK},
		{"of the least life", sized(3, 2, 1), id(9), 1, last(3, wanted(id(9), 1)), api.OK},
		{"of the greatest life", sized(3, 2, 1), id(9), maxLife, last(3, wanted(id(9), maxLife)), api.OK},
		{"the eighth", sized(7, 8, 32), id(9), 5, last(7, wanted(id(9), 5)), api.OK},
		{"one that is hinted", sized(2, 8, 0), id(5), 5, last(2, wanted(id(5), 5)), api.OK},
		{"one that is wanted but for the last bit", sized(2, 0, 0), api.Id{0: 1, 15: 3, 31: 6}, 5, last(2, wanted(api.Id{0: 1, 15: 3, 31: 6}, 5)), api.OK},
		{"of no life", sized(3, 2, 1), id(9), 0, nil, api.ErrArg},
		{"of a life below none", sized(3, 2, 1), id(9), -1, nil, api.ErrArg},
		{"of a life that is too great", sized(3, 2, 1), id(9), maxLife + 1, nil, api.ErrArg},
		{"of a life that is far too great", sized(3, 2, 1), id(9), math.MaxInt, nil, api.ErrArg},
		{"of a life far below none", sized(3, 2, 1), id(9), math.MinInt, nil, api.ErrArg},
		{"twice", sized(3, 2, 1), id(0), 5, nil, api.ErrTwice},
		{"twice, the last one", sized(3, 2, 1), id(2), 12, nil, api.ErrTwice},
		{"twice, of no life", sized(3, 2, 1), id(2), 0, nil, api.ErrArg},
		{"twice, of eight", sized(8, 2, 1), id(7), 5, nil, api.ErrTwice},
		{"the ninth", sized(8, 2, 1), id(8), 5, nil, api.ErrFull},
		{"the ninth, of no life", sized(8, 2, 1), id(8), 0, nil, api.ErrArg},
	} {
		got, err := Want(c.h, c.id, c.life)
		want := c.h
		want.Wants = c.want
		if c.err != api.OK {
			want = api.Host{}
		}
		if !sameHost(got, want) || err != c.err {
			t.Errorf("%s: %+v, %d, want %+v, %d", c.what, got, err, want, c.err)
		}
	}
}

func TestUnwantByHand(t *testing.T) {
	for n := range 9 {
		for i := range 9 {
			h := sized(n, 8, 4)
			got, err := Unwant(h, id(byte(i)))
			want, wantErr := api.Host{}, api.ErrNone
			if i < n {
				want, wantErr = sized(n, 8, 4), api.OK
				want.Wants = append(wants(i), wants(n)[i+1:]...)
			}
			if !sameHost(got, want) || err != wantErr {
				t.Errorf("%d of %d: %+v, %d", i, n, got, err)
			}
		}
	}
	for _, a := range []api.Id{{}, filled(255), {0: 1}, {0: 1, 15: 3, 31: 6}, {0: 1, 15: 2, 31: 7}} {
		if got, err := Unwant(sized(8, 8, 4), a); !isZero(got) || err != api.ErrNone {
			t.Errorf("%x: %+v, %d", a, got, err)
		}
	}
}

func TestAskByHand(t *testing.T) {
	us := toHost(3)
	at := func(no, until int) api.Host {
		return api.Host{No: 3, Gate: 12, Wants: []api.Want{wanted(id(1), 5), wanted(id(0), maxLife)}, Hints: []api.Hint{hinted(id(2), 8, maxTick), hinted(id(1), no, until)}}
	}
	both := func(first, second int) []api.Send {
		return []api.Send{send(first, insert(id(1), us, 5)), send(second, insert(id(0), us, maxLife))}
	}
	for _, c := range []struct {
		what string
		h    api.Host
		now  int
		want []api.Send
	}{
		{"nothing", sized(0, 8, 2), 0, nil},
		{"without hints", sized(2, 0, 0), 0, []api.Send{send(12, insert(id(0), us, 10)), send(12, insert(id(1), us, 11))}},
		{"by hints", sized(2, 3, 0), 5, []api.Send{send(0, insert(id(0), us, 10)), send(1, insert(id(1), us, 11))}},
		{"by a hint that is over", sized(2, 3, 0), 100, []api.Send{send(12, insert(id(0), us, 10)), send(1, insert(id(1), us, 11))}},
		{"by hints that are over", sized(2, 3, 0), 101, []api.Send{send(12, insert(id(0), us, 10)), send(12, insert(id(1), us, 11))}},
		{"in the order of the wants", at(7, 50), 49, both(7, 12)},
		{"just over", at(7, 50), 50, both(12, 12)},
		{"of server 0", at(0, 50), 49, both(0, 12)},
		{"of server 15", at(15, 1), 0, both(15, 12)},
		{"over from the beginning", at(15, 0), 0, both(12, 12)},
		{"nearly for all time", at(7, maxTick), maxTick - 1, both(7, 12)},
		{"for all time", at(7, maxTick), maxTick, both(12, 12)},
		{"host 0", api.Host{Wants: []api.Want{wanted(api.Id{}, 1)}}, 0, []api.Send{send(0, insert(api.Id{}, toHost(0), 1))}},
		{"host 15", api.Host{No: 15, Gate: 15, Wants: []api.Want{wanted(filled(255), 1)}}, 0, []api.Send{send(15, insert(filled(255), toHost(15), 1))}},
	} {
		if got, err := Ask(c.h, c.now); !sameSends(got, c.want) || err != api.OK {
			t.Errorf("%s: %+v, %d, want %+v", c.what, got, err, c.want)
		}
	}
}

func TestSendByHand(t *testing.T) {
	one, two, none := toId(id(1)), toId(id(2)), toId(api.Id{})
	h := api.Host{No: 3, Gate: 12, Hints: []api.Hint{hinted(id(1), 7, 50), hinted(api.Id{}, 4, maxTick)}}
	long := strings.Repeat("x", 64)
	for _, c := range []struct {
		what string
		h    api.Host
		l    []api.Entry
		data string
		now  int
		want int
	}{
		{"by a hint", h, []api.Entry{one}, "hi", 49, 7},
		{"by a hint that is over", h, []api.Entry{one}, "hi", 50, 12},
		{"by no hint", h, []api.Entry{two}, "hi", 0, 12},
		{"by the hint of the first entry", h, []api.Entry{two, one}, "hi", 0, 12},
		{"by the hint of the first entry, ahead of others", h, []api.Entry{one, two, toHost(2), none}, "", 0, 7},
		{"to the identifier that is zero", h, []api.Entry{none}, "\x00", 50, 4},
		{"to a host", h, []api.Entry{toHost(0)}, "hi", 0, 12},
		{"to a host ahead of an identifier", h, []api.Entry{toHost(7), one}, "hi", 0, 12},
		{"to itself", h, []api.Entry{toHost(3)}, "hi", 0, 12},
		{"of 64 bytes", h, []api.Entry{one}, long, maxTick, 12},
		{"of none", h, []api.Entry{none}, "", maxTick - 1, 4},
		{"of another gate", api.Host{}, []api.Entry{one}, long, 0, 0},
	} {
		if got, err := Send(c.h, c.l, c.data, c.now); !sameSend(got, send(c.want, data(64, c.data, c.l...))) || err != api.OK {
			t.Errorf("%s: %+v, %d, want %d", c.what, got, err, c.want)
		}
	}
}

func TestSendDataThatIsTooLong(t *testing.T) {
	for n := range 200 {
		text := strings.Repeat("x", n)
		got, err := Send(sized(2, 2, 2), []api.Entry{toId(id(1))}, text, 5)
		want, wantErr := send(1, data(64, text, toId(id(1)))), api.OK
		if n > 64 {
			want, wantErr = api.Send{}, api.ErrLong
		}
		if !reflect.DeepEqual(got, want) || err != wantErr {
			t.Errorf("%d bytes: %+v, %d", n, got, err)
		}
	}
	if got, err := Send(sized(2, 2, 2), []api.Entry{toId(id(1))}, strings.Repeat("é", 33), 5); !reflect.DeepEqual(got, api.Send{}) || err != api.ErrLong {
		t.Errorf("%+v, %d", got, err)
	}
}

func TestHandleByHand(t *testing.T) {
	us, a := toHost(3), id(1)
	with := func(h api.Host, change func(h *api.Host)) api.Host {
		change(&h)
		return h
	}
	withHints := func(l ...api.Hint) func(h *api.Host) { return func(h *api.Host) { h.Hints = l } }
	got := func(l ...string) func(h *api.Host) { return func(h *api.Host) { h.Inbox = l } }
	h := sized(2, 3, 1)
	three := hints(3)
	for _, c := range []struct {
		what  string
		h     api.Host
		from  int
		m     api.Msg
		want  api.Host
		sends []api.Send
		err   api.Errno
	}{
		{"data", h, 5, data(9, "hi", us), with(h, got("", "hi")), nil, api.OK},
		{"data without hops and bytes", h, 31, data(0, "", us), with(h, got("", "")), nil, api.OK},
		{"data ahead of others", h, 0, data(maxTick, "x", us, toHost(4), toId(a)), with(h, got("", "x")), nil, api.OK},
		{"data to another host", h, 5, data(9, "hi", toHost(4)), api.Host{}, nil, api.ErrArg},
		{"data to another host ahead of it", h, 5, data(9, "hi", toHost(4), us), api.Host{}, nil, api.ErrArg},
		{"data to what it wants", h, 5, data(9, "hi", toId(a), us), api.Host{}, nil, api.ErrArg},
		{"data to the gate's number", h, 5, data(9, "hi", toHost(12)), api.Host{}, nil, api.ErrArg},
		{"the last data", sized(2, 3, 31), 5, data(9, "hi", us), with(sized(2, 3, 31), got(append(texts(31), "hi")...)), nil, api.OK},
		{"more data", sized(2, 3, 32), 5, data(9, "hi", us), api.Host{}, nil, api.ErrFull},
		{"more data to another host", sized(2, 3, 32), 5, data(9, "hi", toHost(4)), api.Host{}, nil, api.ErrArg},

		{"the chapter's example", h, 5, ask(id(2), us, aNonce), api.Host{}, nil, api.ErrNone},
		{"asked", h, 5, ask(a, us, aNonce), h, []api.Send{send(5, echo(a, us, 11, aNonce))}, api.OK},
		{"asked by a host", h, 31, ask(id(0), us, strings.Repeat("\x00", 16)), h, []api.Send{send(31, echo(id(0), us, 10, strings.Repeat("\x00", 16)))}, api.OK},
		{"asked by itself", h, 19, ask(a, us, aNonce), h, []api.Send{send(19, echo(a, us, 11, aNonce))}, api.OK},
		{"asked for another host", h, 5, ask(a, toHost(4), aNonce), api.Host{}, nil, api.ErrArg},
		{"asked for an identifier", h, 5, ask(a, toId(a), aNonce), api.Host{}, nil, api.ErrArg},
		{"asked for another host, of what it does not want", h, 5, ask(id(2), toHost(4), aNonce), api.Host{}, nil, api.ErrArg},
		{"asked of nothing", sized(0, 3, 1), 5, ask(a, us, aNonce), api.Host{}, nil, api.ErrNone},

		{"told", h, 5, ack(a, us), h, nil, api.OK},
		{"told for another host", h, 5, ack(a, toHost(4)), h, nil, api.OK},
		{"told of a link", h, 5, ack(id(0), toId(a)), h, nil, api.OK},
		{"told of what it does not want", h, 5, ack(id(2), us), api.Host{}, nil, api.ErrNone},
		{"told of nothing that it wants", sized(0, 3, 1), 5, ack(a, us), api.Host{}, nil, api.ErrNone},

		{"a hint", h, 5, cache(id(9), 7), with(h, withHints(three[0], three[1], three[2], api.Hint{Id: id(9), No: 7, Until: 1500})), nil, api.OK},
		{"the first hint", sized(2, 0, 1), 31, cache(id(9), 0), with(sized(2, 0, 1), withHints(api.Hint{Id: id(9), Until: 1500})), nil, api.OK},
		{"a hint that is there", h, 5, cache(id(0), 15), with(h, withHints(three[1], three[2], api.Hint{Id: id(0), No: 15, Until: 1500})), nil, api.OK},
		{"the last hint again", h, 5, cache(id(2), 1), with(h, withHints(three[0], three[1], api.Hint{Id: id(2), No: 1, Until: 1500})), nil, api.OK},
		{"the eighth hint", sized(2, 7, 1), 5, cache(id(9), 7), with(sized(2, 7, 1), withHints(append(hints(7), api.Hint{Id: id(9), No: 7, Until: 1500})...)), nil, api.OK},
		{"the ninth hint", sized(2, 8, 1), 5, cache(id(9), 7), with(sized(2, 8, 1), withHints(append(hints(8)[1:], api.Hint{Id: id(9), No: 7, Until: 1500})...)), nil, api.OK},
		{"one of eight hints again", sized(2, 8, 1), 5, cache(id(3), 7), with(sized(2, 8, 1), withHints(append(append(hints(3), hints(8)[4:]...), api.Hint{Id: id(3), No: 7, Until: 1500})...)), nil, api.OK},
		{"a hint of no server", h, 5, cache(id(9), 16), api.Host{}, nil, api.ErrArg},
		{"a hint of far from a server", h, 5, cache(a, maxTick), api.Host{}, nil, api.ErrArg},

		{"a push", h, 5, push(a), with(h, withHints(three[0], three[2])), nil, api.OK},
		{"a push of the last one", sized(2, 1, 1), 16, push(id(0)), with(sized(2, 1, 1), withHints()), nil, api.OK},
		{"a push of what is not there", h, 5, push(id(9)), h, nil, api.OK},
		{"a push of what it wants", sized(2, 0, 1), 5, push(a), sized(2, 0, 1), nil, api.OK},
	} {
		got, sends, err := Handle(c.h, c.from, c.m, 500)
		if !sameHost(got, c.want) || !sameSends(sends, c.sends) || err != c.err {
			t.Errorf("%s: %+v, %+v, %d, want %+v, %+v, %d", c.what, got, sends, err, c.want, c.sends, c.err)
		}
	}
	for _, m := range untaken() {
		if got, sends, err := Handle(sized(8, 8, 8), 5, m, 500); !isZero(got) || len(sends) > 0 || err != api.ErrArg {
			t.Errorf("%+v: %+v, %+v, %d", m, got, sends, err)
		}
	}
}

func TestHandleTakesItsOwnNumberAlone(t *testing.T) {
	for no := range 16 {
		for of := range 16 {
			h := api.Host{No: no, Gate: of, Wants: wants(2)}
			got, _, err := Handle(h, 5, data(3, "hi", toHost(of)), 0)
			_, sends, askErr := Handle(h, 5, ask(id(1), toHost(of), aNonce), 0)
			isOurs := no == of
			if (err == api.OK) != isOurs || (len(got.Inbox) == 1) != isOurs || (askErr == api.OK) != isOurs || (len(sends) == 1) != isOurs {
				t.Errorf("host %d, of %d: %+v, %d, %+v, %d", no, of, got, err, sends, askErr)
			}
		}
	}
}

// TestHintsLast has a hint come at a time, and be turned to until it is over.
func TestHintsLast(t *testing.T) {
	for _, now := range []int{0, 1, 999, 1000, maxTick - 1001, maxTick - 1000, maxTick - 999, maxTick - 1, maxTick} {
		h, _, err := Handle(sized(2, 1, 0), 19, cache(id(1), 7), now)
		until := min(now+1000, maxTick)
		if err != api.OK || h.Hints[1] != (api.Hint{Id: id(1), No: 7, Until: until}) {
			t.Errorf("at %d: %+v, %d", now, h, err)
		}
		for later := max(until-2, 0); later <= min(until+2, maxTick); later++ {
			to := 12
			if later < until {
				to = 7
			}
			sends, _ := Ask(h, later)
			sent, _ := Send(h, []api.Entry{toId(id(1))}, "", later)
			if sends[1].To != to || sent.To != to {
				t.Errorf("of %d, at %d: %d, %d", now, later, sends[1].To, sent.To)
			}
		}
	}
}

// TestWrongHosts has hosts that may not be, and arguments that are refused for other reasons, too: this one is named first.
func TestWrongHosts(t *testing.T) {
	one := []api.Entry{toId(id(1))}
	for _, h := range wrongHosts() {
		if got, err := Want(h, id(60), 5); !isZero(got) || err != api.ErrArg {
			t.Errorf("%+v: %+v, %d", h, got, err)
		}
		if got, err := Want(h, id(0), 5); !isZero(got) || err != api.ErrArg {
			t.Errorf("%+v: %+v, %d", h, got, err)
		}
		if got, err := Unwant(h, id(0)); !isZero(got) || err != api.ErrArg {
			t.Errorf("%+v: %+v, %d", h, got, err)
		}
		if got, err := Unwant(h, id(60)); !isZero(got) || err != api.ErrArg {
			t.Errorf("%+v: %+v, %d", h, got, err)
		}
		checkTimed(t, h, one, "hi", takenMessages(), 5)
		checkTimed(t, h, one, strings.Repeat("x", 65), takenMessages(), 5)
	}
}

// checkTimed has each call that is at a time answer ErrArg alone.
func checkTimed(t *testing.T, h api.Host, l []api.Entry, text string, messages []api.Msg, now int) {
	t.Helper()
	if got, err := Ask(h, now); len(got) > 0 || err != api.ErrArg {
		t.Errorf("%+v, at %d: %+v, %d", h, now, got, err)
	}
	if got, err := Send(h, l, text, now); !reflect.DeepEqual(got, api.Send{}) || err != api.ErrArg {
		t.Errorf("%+v, %+v, at %d: %+v, %d", h, l, now, got, err)
	}
	for _, m := range messages {
		checkRefused(t, h, 19, m, now)
	}
}

// checkRefused has Handle answer an error's number alone.
func checkRefused(t *testing.T, h api.Host, from int, m api.Msg, now int) {
	t.Helper()
	if got, sends, err := Handle(h, from, m, now); !isZero(got) || len(sends) > 0 || err != api.ErrArg {
		t.Errorf("%+v, from %d, %+v, at %d: %+v, %+v, %d", h, from, m, now, got, sends, err)
	}
}

// TestWrongArguments has arguments that are refused for other reasons, too.
func TestWrongArguments(t *testing.T) {
	h, full := sized(2, 3, 1), sized(0, 8, 32)
	refused := append(takenMessages(), ask(id(2), toHost(3), aNonce), ack(id(2), toHost(3)))
	for _, now := range wrongTimes() {
		checkTimed(t, h, []api.Entry{toId(id(1))}, "hi", refused, now)
		checkTimed(t, full, []api.Entry{toId(id(1))}, strings.Repeat("x", 65), refused, now)
	}
	for _, l := range wrongStacks() {
		for _, text := range []string{"", "hi", strings.Repeat("x", 65)} {
			if got, err := Send(h, l, text, 5); !reflect.DeepEqual(got, api.Send{}) || err != api.ErrArg {
				t.Errorf("%+v: %+v, %d", l, got, err)
			}
		}
	}
	for _, m := range refused {
		for _, from := range []int{-1, -2, 32, 33, 256, 1 << 32, math.MaxInt, math.MinInt, math.MinInt + 16, math.MinInt + 17} {
			checkRefused(t, h, from, m, 5)
			checkRefused(t, full, from, m, 5)
		}
	}
	for _, m := range wrongMessages() {
		checkRefused(t, h, 5, m, 5)
		checkRefused(t, full, 5, m, 5)
	}
}

func TestHandleFromEachAddress(t *testing.T) {
	for from := range 32 {
		for _, now := range []int{0, maxTick} {
			for _, m := range takenMessages() {
				if _, _, err := Handle(sized(2, 3, 1), from, m, now); err != api.OK {
					t.Errorf("from %d, %+v: %d", from, m, err)
				}
			}
			want := []api.Send{send(from, echo(id(1), toHost(3), 11, aNonce))}
			if _, sends, err := Handle(sized(2, 3, 1), from, ask(id(1), toHost(3), aNonce), now); !sameSends(sends, want) || err != api.OK {
				t.Errorf("from %d: %+v, %d", from, sends, err)
			}
		}
	}
}

// TestRunsByChance has hosts want, send and take messages one behind the other, as time passes.
func TestRunsByChance(t *testing.T) {
	chance := rand.New(rand.NewSource(1))
	did := map[[2]int]int{}
	for run := range 300 {
		h := chanceHost(chance)
		model, now := modelOf(h), 0
		for range 120 {
			now += chance.Intn(1 + 100*(run%4))
			was := h
			kind, err := step(t, chance, model, &h, now)
			did[[2]int{kind, int(err)}]++
			if err != api.OK && !sameHost(h, was) {
				t.Fatalf("refused, %+v becomes %+v", was, h)
			}
			if !sameHost(h, model.host()) || !Right(h) {
				t.Fatalf("%+v becomes %+v, want %+v", was, h, model.host())
			}
		}
	}
	for _, x := range [][2]int{
		{api.MData, 0}, {api.MData, 1}, {api.MData, 8}, {api.MAsk, 0}, {api.MAsk, 1}, {api.MAsk, 6}, {api.MAck, 0}, {api.MAck, 6},
		{api.MCache, 0}, {api.MCache, 1}, {api.MPush, 0}, {api.MInsert, 1}, {20, 0}, {20, 1}, {20, 7}, {20, 8}, {21, 0}, {21, 6}, {22, 0}, {23, 0},
	} {
		if did[x] < 100 {
			t.Errorf("%v: %d times", x, did[x])
		}
	}
}

// step has a host do one thing: which (a message's kind; 20 Want, 21 Unwant, 22 Ask, 23 Send), and its error.
func step(t *testing.T, chance *rand.Rand, model *model, h *api.Host, now int) (int, api.Errno) {
	t.Helper()
	a, was := chanceId(chance), *h
	var got api.Host
	var err, wantErr api.Errno
	var sends, want []api.Send
	what := []int{20, 20, 20, 21, 22, 23, 24, 24, 24, 24}[chance.Intn(10)]
	switch what {
	case 20:
		life := []int{0, 1, 5, 500, maxLife, maxLife + 1}[chance.Intn(6)]
		got, err = Want(*h, a, life)
		wantErr = model.want(a, life)
	case 21:
		got, err = Unwant(*h, a)
		wantErr = model.unwant(a)
	case 22:
		got = *h
		sends, err = Ask(*h, now)
		want = model.ask(now)
	case 23:
		l := chanceStack(chance, h.No)
		got = *h
		text := "data"[chance.Intn(5):]
		sends = make([]api.Send, 1)
		sends[0], err = Send(*h, l, text, now)
		want = []api.Send{model.send(l, text, now)}
	default:
		m, from := chanceMessage(chance, h.No), chance.Intn(32)
		what = m.Kind
		got, sends, err = Handle(*h, from, m, now)
		want, wantErr = model.handle(from, m, now)
		checkEchoes(t, was, from, m, sends)
	}
	if err != wantErr || !sameSends(sends, want) {
		t.Fatalf("%+v, %d, at %d: %+v, %d, want %+v, %d", was, what, now, sends, err, want, wantErr)
	}
	for _, x := range sends {
		if !wire.Right(x.Msg) || x.To < 0 || x.To > 31 || x.By != (api.Trigger{}) {
			t.Fatalf("%+v sends %+v", was, x)
		}
	}
	if err == api.OK {
		*h = got
	} else if !isZero(got) {
		t.Fatalf("beside error %d: %+v", err, got)
	}
	return what, err
}

// checkEchoes holds what follows: a host that takes a message sends nothing but the echo of a nonce that it is asked of what it wants, to who asks.
func checkEchoes(t *testing.T, h api.Host, from int, m api.Msg, sends []api.Send) {
	t.Helper()
	at := slices.IndexFunc(h.Wants, func(w api.Want) bool { return w.Id == m.Id })
	if m.Kind != api.MAsk || at < 0 || m.Target != toHost(h.No) {
		if len(sends) > 0 {
			t.Fatalf("%+v, of %+v, sends %+v", h, m, sends)
		}
		return
	}
	if len(sends) != 1 || !sameSend(sends[0], send(from, echo(m.Id, m.Target, h.Wants[at].Life, m.Nonce))) {
		t.Fatalf("%+v, of %+v, sends %+v", h, m, sends)
	}
}

// TestWhatMayBeStaysSuch has each host that may be take each message.
func TestWhatMayBeStaysSuch(t *testing.T) {
	for _, h := range rightHosts() {
		var next []api.Host
		for _, m := range slices.Concat(takenMessages(), untaken(), []api.Msg{data(3, strings.Repeat("x", 64), toHost(h.No)), cache(filled(255), 15)}) {
			for _, now := range []int{0, maxTick} {
				got, sends, err := Handle(h, 5, m, now)
				if err == api.OK {
					next = append(next, got)
				}
				checkEchoes(t, h, 5, m, sends)
			}
		}
		for _, life := range []int{1, maxLife} {
			if got, err := Want(h, filled(77), life); err == api.OK {
				next = append(next, got)
			}
		}
		for _, w := range h.Wants {
			got, _ := Unwant(h, w.Id)
			next = append(next, got)
		}
		for _, x := range next {
			if !Right(x) || x.No != h.No || x.Gate != h.Gate {
				t.Errorf("%+v becomes %+v", h, x)
			}
		}
	}
}

// answers is each call's answer.
func answers(h api.Host, l []api.Entry, m api.Msg) []any {
	wanting, wantErr := Want(h, id(60), 5)
	not, notErr := Unwant(h, id(1))
	asks, askErr := Ask(h, 7)
	sent, sentErr := Send(h, l, "hi", 7)
	handled, sends, err := Handle(h, 19, m, 7)
	return []any{Right(h), wanting, wantErr, not, notErr, asks, askErr, sent, sentErr, handled, sends, err}
}

// spoil writes over the lists of an answer, and all there is room for behind them.
func spoil(l []any) {
	for _, x := range l {
		switch x := x.(type) {
		case api.Host:
			spoilHost(x)
		case api.Send:
			spoilStack(x.Msg.Stack)
		case []api.Send:
			for i := range x[:cap(x)] {
				spoilStack(x[:cap(x)][i].Msg.Stack)
			}
		}
	}
}

func spoilHost(h api.Host) {
	for i := range h.Wants[:cap(h.Wants)] {
		h.Wants[:cap(h.Wants)][i] = api.Want{Id: filled(17), Life: 17}
	}
	for i := range h.Hints[:cap(h.Hints)] {
		h.Hints[:cap(h.Hints)][i] = api.Hint{Id: filled(17), No: 7, Until: 17}
	}
	for i := range h.Inbox[:cap(h.Inbox)] {
		h.Inbox[:cap(h.Inbox)][i] = "spoiled"
	}
}

func spoilStack(l []api.Entry) {
	for i := range l[:cap(l)] {
		l[:cap(l)][i] = toHost(14)
	}
}

// roomy is that host, in lists that have more behind what they show, and what is behind them.
func roomy(w, h, i int) (shown, all api.Host) {
	all = api.Host{No: 3, Gate: 12, Wants: wants(20), Hints: hints(20), Inbox: texts(40)}
	shown = api.Host{No: 3, Gate: 12, Wants: all.Wants[:w], Hints: all.Hints[:h], Inbox: all.Inbox[:i]}
	return shown, all
}

func TestAnswersAreNewMemory(t *testing.T) {
	for _, n := range []int{0, 1, 2, 5, 7, 8} {
		for _, m := range takenMessages() {
			h, all := roomy(n, n, 4*n)
			l := append(make([]api.Entry, 0, 8), toId(id(1)), toHost(3))
			m.Stack = append(make([]api.Entry, 0, 8), m.Stack...)
			want := answers(sized(n, n, 4*n), slices.Clone(l), m)
			got, again := answers(h, l, m), answers(h, l, m)
			spoil(got)
			if !sameHost(all, api.Host{No: 3, Gate: 12, Wants: wants(20), Hints: hints(20), Inbox: texts(40)}) {
				t.Fatalf("with %d, %+v: an answer shares memory with the host", n, m)
			}
			if !stack.Same(l, []api.Entry{toId(id(1)), toHost(3)}) || slices.Contains(m.Stack[:cap(m.Stack)], toHost(14)) {
				t.Fatalf("with %d, %+v: an answer shares memory with a stack", n, m)
			}
			for i := range want {
				if !likeAnswer(again[i], want[i]) {
					t.Fatalf("with %d, %+v: answer %d is %+v, want %+v", n, m, i, again[i], want[i])
				}
			}
		}
	}
}

func likeAnswer(a, b any) bool {
	switch a := a.(type) {
	case api.Host:
		return sameHost(a, b.(api.Host))
	case api.Send:
		return sameSend(a, b.(api.Send))
	case []api.Send:
		return sameSends(a, b.([]api.Send))
	}
	return reflect.DeepEqual(a, b)
}

func TestANilListCountsAsAnEmptyOne(t *testing.T) {
	empty := api.Host{No: 3, Wants: []api.Want{}, Hints: []api.Hint{}, Inbox: []string{}}
	for _, m := range takenMessages() {
		one, two := answers(api.Host{No: 3}, []api.Entry{toHost(3)}, m), answers(empty, []api.Entry{toHost(3)}, m)
		for i := range one {
			if !likeAnswer(one[i], two[i]) {
				t.Errorf("%+v: %+v and %+v", m, one[i], two[i])
			}
		}
	}
}
