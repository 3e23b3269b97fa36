package server

import (
	"math"
	"math/rand"
	"reflect"
	"slices"
	"strings"
	"testing"

	"posthouse/api"
	"posthouse/table"
	"posthouse/wire"
)

// sameServer tells whether two servers are the same.
func sameServer(a, b api.Server) bool {
	return a.No == b.No && a.Secret == b.Secret && slices.Equal(a.Table, b.Table)
}

// sameSends tells whether two rows of what is sent are the same.
func sameSends(a, b []api.Send) bool {
	return slices.EqualFunc(a, b, func(a, b api.Send) bool { return a.To == b.To && a.By == b.By && wire.Like(a.Msg, b.Msg) })
}

func isZero(s api.Server) bool { return s.No == 0 && s.Secret == "" && len(s.Table) == 0 }

// of is server 5, whose secret is "secret", with some triggers.
func of(t ...api.Trigger) api.Server { return api.Server{No: 5, Secret: "secret", Table: t} }

func wrongServers() []api.Server {
	var l []api.Server
	for _, no := range []int{-1, -2, 16, 17, 256, math.MaxInt, math.MinInt} {
		l = append(l, api.Server{No: no}, api.Server{No: no, Secret: "secret", Table: sized(4)})
	}
	for _, n := range []int{65, 66, 128, 256, 320, 5000} {
		l = append(l, api.Server{Secret: strings.Repeat("x", n)}, api.Server{No: 5, Secret: strings.Repeat("\x00", n), Table: sized(4)})
	}
	l = append(l, api.Server{Secret: strings.Repeat("é", 33)})
	for _, t := range wrongTables() {
		l = append(l, of(t...), api.Server{Table: t})
	}
	return l
}

func TestServersThatMayBe(t *testing.T) {
	var right []api.Server
	for no := range 16 {
		right = append(right, api.Server{No: no}, api.Server{No: no, Secret: "secret", Table: sized(no)})
	}
	for n := range 65 {
		right = append(right, api.Server{Secret: strings.Repeat("x", n)}, api.Server{No: 15, Secret: strings.Repeat("\xff", n)})
	}
	for _, table := range rightTables() {
		right = append(right, of(table...))
	}
	for _, s := range right {
		if !Right(s) {
			t.Errorf("may not be: %+v", s)
		}
	}
	for _, s := range wrongServers() {
		if Right(s) {
			t.Errorf("may be: %+v", s)
		}
	}
}

func TestAbout(t *testing.T) {
	a, b, nonce := place(50), place(60), "0123456789abcdef"
	for _, c := range []struct {
		what string
		m    api.Msg
		want api.Id
		err  api.Errno
	}{
		{"an insert", insert(a, toHost(3), 9), a, api.OK},
		{"an insert to an identifier", insert(a, toId(b), 0), a, api.OK},
		{"an echo", echo(a, toHost(3), 9, nonce), a, api.OK},
		{"an echo of an identifier", echo(a, toId(b), 9, nonce), a, api.OK},
		{"one that goes", remove(a, toHost(3), nonce), a, api.OK},
		{"data", data(9, "hi", toId(a)), a, api.OK},
		{"data of several", data(0, "", toId(b), toId(a), toHost(3)), b, api.OK},
		{"data ahead of a host", data(0, "", toId(b), toHost(3)), b, api.OK},
		{"data of the identifier that is zero", data(0, "", toId(api.Id{}), toId(a)), api.Id{}, api.OK},
		{"data to a host", data(9, "hi", toHost(3)), api.Id{}, api.ErrNone},
		{"data to host 0", data(9, "hi", toHost(0)), api.Id{}, api.ErrNone},
		{"data to a host ahead of an identifier", data(9, "hi", toHost(3), toId(a)), api.Id{}, api.ErrNone},
	} {
		if got, err := About(c.m); got != c.want || err != c.err {
			t.Errorf("%s: %x, %d", c.what, got, err)
		}
	}
	for _, m := range untaken() {
		if got, err := About(m); got != (api.Id{}) || err != api.ErrNone {
			t.Errorf("%+v: %x, %d", m, got, err)
		}
	}
	for _, m := range wrongMessages() {
		if got, err := About(m); got != (api.Id{}) || err != api.ErrArg {
			t.Errorf("%+v: %x, %d", m, got, err)
		}
	}
}

func TestHandleClaimsByHand(t *testing.T) {
	a, b := place(50), leftOf(place(50), 1)
	nonce := nonceOf("secret", a, 3)
	ours, its := trig(a, toHost(3), 50), trig(a, toId(b), 60)
	for _, c := range []struct {
		what  string
		s     api.Server
		from  int
		m     api.Msg
		want  api.Server
		sends []api.Send
		err   api.Errno
	}{
		{"the chapter's example", of(), 19, insert(a, toHost(3), 9), of(), []api.Send{send(19, ask(a, toHost(3), nonce))}, api.OK},
		{"one that another host sends", of(), 17, insert(a, toHost(3), 9), of(), []api.Send{send(19, ask(a, toHost(3), nonce))}, api.OK},
		{"one that a server sends, of host 0", of(), 2, insert(a, toHost(0), 9), of(), []api.Send{send(16, ask(a, toHost(0), nonceOf("secret", a, 0)))}, api.OK},
		{"of host 15, which is there", of(trig(a, toHost(15), 50)), 31, insert(a, toHost(15), 9), of(trig(a, toHost(15), 50)), []api.Send{send(31, ask(a, toHost(15), nonceOf("secret", a, 15)))}, api.OK},
		{"asked, when others are over", of(its, trig(a, toHost(3), 10)), 19, insert(a, toHost(3), 9), of(its), []api.Send{send(19, ask(a, toHost(3), nonce))}, api.OK},
		{"an echo", of(), 19, echo(a, toHost(3), 40, nonce), of(ours), []api.Send{send(19, ack(a, toHost(3)))}, api.OK},
		{"an echo from another host", of(), 31, echo(a, toHost(3), 40, nonce), of(ours), []api.Send{send(31, ack(a, toHost(3)))}, api.OK},
		{"an echo from a server", of(), 0, echo(a, toHost(3), 40, nonce), of(ours), []api.Send{send(0, ack(a, toHost(3)))}, api.OK},
		{"an echo behind others", of(its), 19, echo(a, toHost(3), 40, nonce), of(its, ours), []api.Send{send(19, ack(a, toHost(3)))}, api.OK},
		{"an echo for no time", of(), 19, echo(a, toHost(3), 0, nonce), of(trig(a, toHost(3), 10)), []api.Send{send(19, ack(a, toHost(3)))}, api.OK},
		{"an echo for all time", of(), 19, echo(a, toHost(3), maxTick, nonce), of(trig(a, toHost(3), maxTick)), []api.Send{send(19, ack(a, toHost(3)))}, api.OK},
		{"an echo for longer", of(ours), 19, echo(a, toHost(3), 41, nonce), of(trig(a, toHost(3), 51)), []api.Send{send(19, ack(a, toHost(3)))}, api.OK},
		{"an echo for less", of(ours), 19, echo(a, toHost(3), 39, nonce), of(ours), []api.Send{send(19, ack(a, toHost(3)))}, api.OK},
		{"an echo for no time of one that is over", of(trig(a, toHost(3), 9)), 19, echo(a, toHost(3), 0, nonce), of(trig(a, toHost(3), 10)), []api.Send{send(19, ack(a, toHost(3)))}, api.OK},
		{"an echo of another nonce", of(ours), 19, echo(a, toHost(3), 90, nonceOf("secrets", a, 3)), of(ours), nil, api.ErrProof},
		{"an echo of another host's nonce", of(), 19, echo(a, toHost(3), 90, nonceOf("secret", a, 4)), of(), nil, api.ErrProof},
		{"an echo of an identifier", of(), 19, echo(a, toId(b), 90, nonceOf("secret", a, 0)), of(), nil, api.ErrProof},
		{"a link", of(), 19, insert(a, toId(b), 50), of(its), []api.Send{send(19, ack(a, toId(b)))}, api.OK},
		{"a link from a server", of(ours), 15, insert(a, toId(b), 50), of(its, ours), []api.Send{send(15, ack(a, toId(b)))}, api.OK},
		{"a link to what comes from it", of(), 19, insert(rightOf(a, 0), toId(a), 50), of(trig(rightOf(a, 0), toId(a), 60)), []api.Send{send(19, ack(rightOf(a, 0), toId(a)))}, api.OK},
		{"no link", of(), 19, insert(a, toId(place(60)), 50), of(), nil, api.ErrProof},
		{"no link, which is there", of(trig(a, toId(a), 20)), 19, insert(a, toId(a), 50), of(trig(a, toId(a), 20)), nil, api.ErrProof},
		{"one that goes", of(its, ours), 19, remove(a, toHost(3), nonce), of(its), nil, api.OK},
		{"the last one goes", of(ours), 3, remove(a, toHost(3), nonce), of(), nil, api.OK},
		{"one that goes by another nonce", of(its, ours), 19, remove(a, toHost(3), nonceOf("", a, 3)), of(its, ours), nil, api.ErrProof},
		{"an identifier's never goes", of(its, ours), 19, remove(a, toId(b), nonceOf("secret", a, 0)), of(its, ours), nil, api.ErrProof},
		{"one that is not there", of(its), 19, remove(a, toHost(3), nonce), of(its), nil, api.ErrNone},
		{"one that is over", of(its, trig(a, toHost(3), 10)), 19, remove(a, toHost(3), nonce), of(its, trig(a, toHost(3), 10)), nil, api.ErrNone},
		{"one that is over, by another nonce", of(its, trig(a, toHost(3), 10)), 19, remove(a, toHost(3), nonceOf("", a, 3)), of(its, trig(a, toHost(3), 10)), nil, api.ErrProof},
	} {
		got, sends, err := Handle(c.s, c.from, c.m, 10)
		if !sameServer(got, c.want) || !sameSends(sends, c.sends) || err != c.err {
			t.Errorf("%s: %+v, %+v, %d, want %+v, %+v, %d", c.what, got, sends, err, c.want, c.sends, c.err)
		}
	}
}

func TestHandleDataByHand(t *testing.T) {
	a, b, c := place(50), place(90), place(51)
	three := []api.Trigger{trig(a, toId(c), 40), trig(a, toHost(1), 30), trig(a, toHost(2), maxTick)}
	gone := []api.Trigger{trig(b, toHost(4), 10), trig(b, toHost(6), 3)}
	for _, x := range []struct {
		what string
		s    api.Server
		from int
		m    api.Msg
		want []api.Send
	}{
		{"to a host", of(three...), 20, data(9, "hi", toHost(7)), []api.Send{send(23, data(9, "hi", toHost(7)))}},
		{"to a host, from a server", of(three...), 4, data(0, "", toHost(0)), []api.Send{send(16, data(0, "", toHost(0)))}},
		{"to a host ahead of others", of(three...), 20, data(9, "hi", toHost(15), toId(a)), []api.Send{send(31, data(9, "hi", toHost(15), toId(a)))}},
		{"to a host, of too many hops", of(three...), 20, data(65, "hi", toHost(7)), []api.Send{send(23, data(64, "hi", toHost(7)))}},
		{"by each trigger, from a host", of(three...), 20, data(9, "hi", toId(a)), []api.Send{
			sendBy(-1, data(8, "hi", toId(c)), three[0]), sendBy(17, data(8, "hi", toHost(1)), three[1]), sendBy(18, data(8, "hi", toHost(2)), three[2]),
			send(20, cache(a, 5)),
		}},
		{"by each trigger, from a server", of(three...), 15, data(9, "hi", toId(a)), []api.Send{
			sendBy(-1, data(8, "hi", toId(c)), three[0]), sendBy(17, data(8, "hi", toHost(1)), three[1]), sendBy(18, data(8, "hi", toHost(2)), three[2]),
		}},
		{"by a trigger, ahead of other entries", of(three[1]), 16, data(1, "", toId(a), toHost(9), toId(b)), []api.Send{
			sendBy(17, data(0, "", toHost(1), toHost(9), toId(b)), three[1]), send(16, cache(a, 5)),
		}},
		{"of hops at their end", of(three[1]), 0, data(64, "", toId(a)), []api.Send{sendBy(17, data(63, "", toHost(1)), three[1])}},
		{"of one hop too many", of(three[1]), 0, data(65, "", toId(a)), []api.Send{sendBy(17, data(63, "", toHost(1)), three[1])}},
		{"of far too many hops", of(three[1]), 0, data(maxTick, "", toId(a)), []api.Send{sendBy(17, data(63, "", toHost(1)), three[1])}},
		{"by the likest", of(three[1]), 0, data(3, "", toId(api.Id{0: 50, 15: 3, 31: 8})), []api.Send{sendBy(17, data(2, "", toHost(1)), three[1])}},
		{"on by the next entry", of(three...), 20, data(9, "hi", toId(b), toId(a)), []api.Send{send(-1, data(8, "hi", toId(a))), send(20, cache(b, 5))}},
		{"on by the next entry, a host", of(three...), 31, data(9, "hi", toId(b), toHost(2), toId(a)), []api.Send{send(18, data(8, "hi", toHost(2), toId(a))), send(31, cache(b, 5))}},
		{"on by the next entry, from a server", of(), 3, data(9, "hi", toId(b), toHost(2)), []api.Send{send(18, data(8, "hi", toHost(2)))}},
		{"by none, from a host", of(three...), 20, data(9, "hi", toId(b)), []api.Send{send(20, push(b))}},
		{"by none, from host 0", of(), 16, data(1, "", toId(b)), []api.Send{send(16, push(b))}},
		{"by none, from a server", of(three...), 15, data(9, "hi", toId(b)), nil},
		{"without hops, from a host", of(three...), 20, data(0, "hi", toId(a)), []api.Send{send(20, cache(a, 5))}},
		{"without hops, by none", of(three...), 20, data(0, "hi", toId(b)), []api.Send{send(20, cache(b, 5))}},
		{"without hops, of more entries", of(three...), 20, data(0, "hi", toId(b), toHost(3)), []api.Send{send(20, cache(b, 5))}},
		{"without hops, from a server", of(three...), 3, data(0, "hi", toId(a)), nil},
		{"by none that lasts", of(gone...), 20, data(9, "hi", toId(b)), []api.Send{send(20, push(b))}},
		{"by the likest that lasts", of(trig(b, toHost(4), 10), trig(api.Id{0: 90, 15: 3, 31: 8}, toHost(6), 11)), 0, data(9, "hi", toId(b)), []api.Send{
			sendBy(22, data(8, "hi", toHost(6)), trig(api.Id{0: 90, 15: 3, 31: 8}, toHost(6), 11)),
		}},
	} {
		got, sends, err := Handle(x.s, x.from, x.m, 10)
		want := x.s
		want.Table = slices.DeleteFunc(slices.Clone(want.Table), func(x api.Trigger) bool { return x.Until <= 10 })
		if !sameServer(got, want) || !sameSends(sends, x.want) || err != api.OK {
			t.Errorf("%s: %+v, %+v, %d, want %+v", x.what, got, sends, err, x.want)
		}
	}
}

func TestHandleTellsItsOwnNumber(t *testing.T) {
	for no := range 16 {
		for host := range 16 {
			_, sends, err := Handle(api.Server{No: no, Table: sized(3)}, 16+host, data(3, "", toId(place(0)), toHost(host)), 0)
			if err != api.OK || len(sends) != 4 || !sameSends(sends[3:], []api.Send{send(16+host, cache(place(0), no))}) {
				t.Errorf("server %d, host %d: %+v, %d", no, host, sends, err)
			}
		}
	}
}

func TestHandleAFullTable(t *testing.T) {
	a := place(50)
	nonce := nonceOf("secret", a, 3)
	claims := []api.Msg{echo(a, toHost(3), 9, nonce), insert(a, toId(leftOf(a, 0)), 9)}
	for n := 28; n <= 32; n++ {
		for _, m := range claims {
			s := of(sized(n)...)
			got, sends, err := Handle(s, 19, m, 10)
			if n < 32 {
				if err != api.OK || len(got.Table) != n+1 || len(sends) != 1 {
					t.Errorf("with %d: %d, %d", n, len(got.Table), err)
				}
				continue
			}
			if !sameServer(got, s) || len(sends) > 0 || err != api.ErrFull {
				t.Errorf("with %d: %d, %+v, %d", n, len(got.Table), sends, err)
			}
			// One that is over leaves room.
			got, sends, err = Handle(s, 19, m, 100)
			if err != api.OK || len(got.Table) != 32 || len(sends) != 1 || got.Table[0] != sized(2)[1] {
				t.Errorf("when one is over: %d, %+v, %d", len(got.Table), sends, err)
			}
		}
	}
	// One that is there needs none.
	s := of(sized(32)...)
	got, _, err := Handle(s, 18, echo(place(10), toHost(2), 500, nonceOf("secret", place(10), 2)), 10)
	s.Table[31].Until = 510
	if !sameServer(got, s) || err != api.OK {
		t.Errorf("%+v, %d", got, err)
	}
}

// TestHandleAtEachTime has each trigger last until just ahead of its time.
func TestHandleAtEachTime(t *testing.T) {
	s := of(sized(32)...)
	for _, m := range []api.Msg{insert(place(50), toHost(3), 9), data(3, "", toHost(3))} {
		for now := 98; now < 134; now++ {
			got, _, err := Handle(s, 19, m, now)
			if want := sized(32)[min(max(now-99, 0), 32):]; err != api.OK || !slices.Equal(got.Table, want) {
				t.Errorf("at %d: %d, %d", now, len(got.Table), err)
			}
		}
	}
	for _, now := range []int{0, 1, maxTick - 1, maxTick} {
		if got, sends, err := Handle(of(), 19, echo(place(1), toHost(3), 5, nonceOf("secret", place(1), 3)), now); err != api.OK || len(sends) != 1 || got.Table[0].Until != min(now+5, maxTick) {
			t.Errorf("at %d: %+v, %d", now, got, err)
		}
	}
}

// checkRefused has Handle answer an error's number alone.
func checkRefused(t *testing.T, s api.Server, from int, m api.Msg, now int) {
	t.Helper()
	if got, sends, err := Handle(s, from, m, now); !isZero(got) || len(sends) > 0 || err != api.ErrArg {
		t.Errorf("%+v, from %d, %+v, at %d: %+v, %+v, %d", s, from, m, now, got, sends, err)
	}
}

// TestHandleWrongArguments has messages that are refused for other reasons, too: this one is named first.
func TestHandleWrongArguments(t *testing.T) {
	a := place(50)
	full := of(sized(32)...)
	good := []api.Msg{
		insert(a, toHost(3), 9), data(3, "x", toId(a)), insert(a, toId(a), 9), echo(a, toHost(3), 9, nonceOf("secret", a, 3)),
		remove(a, toHost(3), nonceOf("secret", a, 3)), remove(a, toHost(3), "0123456789abcdef"),
	}
	for _, m := range good {
		for _, s := range wrongServers() {
			checkRefused(t, s, 19, m, 9)
		}
		for _, from := range []int{-1, -2, 32, 33, 256, 1 << 32, math.MaxInt, math.MinInt} {
			checkRefused(t, full, from, m, 9)
		}
		for _, now := range []int{-1, -maxTick, maxTick + 1, math.MaxInt, math.MinInt} {
			checkRefused(t, full, 19, m, now)
		}
	}
	for _, from := range []int{0, 5, 16, 31} {
		for _, m := range append(wrongMessages(), untaken()...) {
			checkRefused(t, full, from, m, 9)
			checkRefused(t, of(), from, m, 0)
		}
	}
}

func TestHandleFromEachAddress(t *testing.T) {
	for _, m := range takenMessages() {
		for from := range 32 {
			s := of(sized(20)...)
			model := modelOf(s)
			want, wantErr := model.handle(from, m, 7)
			if got, sends, err := Handle(s, from, m, 7); err != wantErr || !sameSends(sends, want) || !sameServer(got, model.server()) {
				t.Fatalf("from %d, %+v: %+v, %+v, %d, want %+v, %d", from, m, got, sends, err, want, wantErr)
			}
		}
	}
}

func TestGive(t *testing.T) {
	ends := []api.Id{{}, place(0), place(1), place(4), {0: 4, 15: 3, 31: 6}, {0: 4, 15: 3, 31: 8}, place(9), place(10), filled(255)}
	for _, table := range rightTables() {
		for _, from := range ends {
			for _, to := range ends {
				s := of(table...)
				on, off, _ := table2(table, from, to)
				got, given, err := Give(s, from, to)
				if err != api.OK || !slices.Equal(given, on) || !sameServer(got, of(off...)) {
					t.Errorf("from %x to %x: %+v, %+v, %d", from, to, got, given, err)
				}
			}
		}
	}
	for _, s := range wrongServers() {
		if got, given, err := Give(s, place(1), place(9)); !isZero(got) || len(given) > 0 || err != api.ErrArg {
			t.Errorf("%+v: %+v, %+v, %d", s, got, given, err)
		}
	}
}

// table2 parts a table by how identifiers stand round the ring: on the way are those from behind from up to to; all, if both are the same.
func table2(l []api.Trigger, from, to api.Id) (on, off []api.Trigger, n int) {
	less := func(a, b api.Id) bool { return string(a[:]) < string(b[:]) }
	for _, x := range l {
		behind, upTo := less(from, x.Id), !less(to, x.Id)
		isOn := from == to || less(from, to) && behind && upTo || less(to, from) && (behind || upTo)
		if isOn {
			on = append(on, x)
			n++
		} else {
			off = append(off, x)
		}
	}
	return on, off, n
}

func TestHandByHand(t *testing.T) {
	a := place(50)
	for _, c := range []struct {
		what string
		s, t []api.Trigger
		want []api.Trigger
		left int
	}{
		{"none to none", nil, nil, nil, 0},
		{"none", sized(5), nil, sized(5), 0},
		{"to none", nil, sized(32), sized(32), 0},
		{"to itself", sized(32), sized(32), sized(32), 0},
		{"one", sized(5), []api.Trigger{trig(a, toHost(3), 0)}, append(sized(5), trig(a, toHost(3), 0)), 0},
		{"for longer", []api.Trigger{trig(a, toHost(3), 5)}, []api.Trigger{trig(a, toHost(3), 6)}, []api.Trigger{trig(a, toHost(3), 6)}, 0},
		{"for less", []api.Trigger{trig(a, toHost(3), 5)}, []api.Trigger{trig(a, toHost(3), 4)}, []api.Trigger{trig(a, toHost(3), 5)}, 0},
		{"just room", sized(30), []api.Trigger{trig(a, toHost(3), 5), trig(a, toHost(4), 6)}, append(sized(30), trig(a, toHost(3), 5), trig(a, toHost(4), 6)), 0},
		{"no room for the last", sized(31), []api.Trigger{trig(a, toHost(3), 5), trig(a, toHost(4), 6)}, append(sized(31), trig(a, toHost(3), 5)), 1},
		{"no room for any", sized(32), []api.Trigger{trig(a, toHost(3), 5), trig(a, toHost(4), 6)}, sized(32), 2},
		{"no room but for one that is there", sized(32), []api.Trigger{trig(api.Id{}, toHost(3), 5), trig(place(10), toHost(2), 5), trig(a, toHost(4), 6)}, sized(32), 2},
	} {
		if got, left, err := Hand(of(c.s...), c.t); !sameServer(got, of(c.want...)) || left != c.left || err != api.OK {
			t.Errorf("%s: %+v, %d, %d", c.what, got, left, err)
		}
	}
	// One without room does not keep away one that is there.
	longer := slices.Clone(sized(32))
	longer[31].Until = 900
	if got, left, err := Hand(of(sized(32)...), []api.Trigger{trig(api.Id{}, toHost(3), 5), trig(place(10), toHost(2), 900), trig(a, toHost(2), 5)}); !sameServer(got, of(longer...)) || left != 2 || err != api.OK {
		t.Errorf("%+v, %d, %d", got, left, err)
	}
}

func TestHandWrongArguments(t *testing.T) {
	for _, s := range wrongServers() {
		if got, left, err := Hand(s, sized(3)); !isZero(got) || left != 0 || err != api.ErrArg {
			t.Errorf("%+v: %+v, %d, %d", s, got, left, err)
		}
	}
	for _, table := range wrongTables() {
		for _, s := range []api.Server{{}, of(sized(32)...)} {
			if got, left, err := Hand(s, table); !isZero(got) || left != 0 || err != api.ErrArg {
				t.Errorf("%+v, %+v: %+v, %d, %d", s, table, got, left, err)
			}
		}
	}
}

// TestHandWhatWasGiven has one server hand over a part, and another one have it.
func TestHandWhatWasGiven(t *testing.T) {
	chance := rand.New(rand.NewSource(1))
	full := 0
	for range 2000 {
		s, other := of(chanceTable(chance)...), api.Server{No: 9, Secret: "other", Table: chanceTable(chance)}
		from, to := chanceId(chance), chanceId(chance)
		rest, given, _ := Give(s, from, to)
		model, left := modelOf(other), 0
		for _, x := range given {
			if !model.put(x) {
				left++
			}
		}
		got, n, err := Hand(other, given)
		if err != api.OK || n != left || !sameServer(got, model.server()) {
			t.Fatalf("%+v, %d, want %d, %d", got, n, left, err)
		}
		if left > 0 {
			full++
		}
		if back, n, err := Hand(rest, given); !sameServer(back, s) || n != 0 || err != api.OK {
			t.Fatalf("it does not have again what it gave: %+v, %d, %d", back, n, err)
		}
	}
	if full < 100 {
		t.Errorf("without room %d times", full)
	}
}

func chanceTable(chance *rand.Rand) []api.Trigger {
	m := model{kept: map[pair]int{}}
	for range chance.Intn(33) {
		m.put(trig(chanceId(chance), chanceEntry(chance), chance.Intn(100)))
	}
	return m.table()
}

// TestRunsByChance has servers take messages one behind the other, as time passes.
func TestRunsByChance(t *testing.T) {
	chance := rand.New(rand.NewSource(2))
	errs := map[api.Errno]int{}
	kinds := map[int]int{}
	for run := range 150 {
		s := api.Server{No: chance.Intn(16), Secret: "secret"[:chance.Intn(7)], Table: chanceTable(chance)}
		model, now := modelOf(s), 0
		for range 200 {
			now += chance.Intn(1 + run%4)
			from, m := chance.Intn(32), chanceMessage(chance, s.Secret)
			want, wantErr := model.handle(from, m, now)
			was := s
			var sends []api.Send
			var err api.Errno
			s, sends, err = Handle(s, from, m, now)
			if err != wantErr || !sameSends(sends, want) || !sameServer(s, model.server()) {
				t.Fatalf("%+v, from %d, %+v, at %d: %+v, %+v, %d, want %+v, %d", was, from, m, now, s, sends, err, want, wantErr)
			}
			errs[err]++
			for _, x := range sends {
				kinds[x.Msg.Kind]++
			}
			checkFollows(t, was, s, m, now, sends)
		}
	}
	for _, err := range []api.Errno{api.OK, api.ErrProof, api.ErrFull, api.ErrNone} {
		if errs[err] < 200 {
			t.Errorf("error %d: %d times", err, errs[err])
		}
	}
	for _, kind := range []int{api.MData, api.MAsk, api.MAck, api.MPush, api.MCache} {
		if kinds[kind] < 200 {
			t.Errorf("kind %d: %d times", kind, kinds[kind])
		}
	}
}

// checkFollows holds what follows: what may be stays such, and no trigger comes in but by a nonce or a link.
func checkFollows(t *testing.T, was, s api.Server, m api.Msg, now int, sends []api.Send) {
	t.Helper()
	if !Right(s) || s.No != was.No || s.Secret != was.Secret {
		t.Fatalf("%+v becomes %+v", was, s)
	}
	for _, x := range sends {
		if !wire.Right(x.Msg) || x.To < -1 || x.To > 31 {
			t.Fatalf("it sends %+v", x)
		}
		if _, err := About(x.Msg); x.To == -1 && err != api.OK {
			t.Fatalf("it sends %+v by %d", x, err)
		}
	}
	for _, x := range s.Table {
		if slices.Contains(was.Table, x) {
			continue
		}
		byNonce := x.Target.Kind == api.EHost && m.Kind == api.MEcho && m.Nonce == nonceOf(s.Secret, x.Id, x.Target.Host)
		byLink := x.Target.Kind == api.EId && m.Kind == api.MInsert && leads(x.Id, x.Target.Id)
		if !byNonce && !byLink || m.Id != x.Id || m.Target != x.Target || x.Until != min(now+m.N, maxTick) {
			t.Fatalf("%+v lets %+v in", m, x)
		}
	}
}

// TestRefusedChangesNothing has servers of which some triggers are over.
func TestRefusedChangesNothing(t *testing.T) {
	a := place(50)
	for n := range 33 {
		for _, now := range []int{0, 100, 110, 131, 132, maxTick} {
			for _, m := range []api.Msg{insert(a, toId(a), 9), echo(a, toHost(3), 9, "0123456789abcdef"), remove(place(0), toHost(2), nonceOf("", place(0), 2)), remove(a, toHost(3), nonceOf("secret", a, 3))} {
				s := of(sized(n)...)
				if got, sends, err := Handle(s, 19, m, now); !sameServer(got, s) || len(sends) > 0 || err == api.OK {
					t.Errorf("with %d, at %d: %+v, %+v, %d", n, now, got, sends, err)
				}
			}
		}
	}
}

// answers is each call's answer, of a server and triggers to hand it.
func answers(s api.Server, handed []api.Trigger, m api.Msg) []any {
	about, aboutErr := About(m)
	handled, sends, err := Handle(s, 19, m, 7)
	with, left, withErr := Hand(s, handed)
	without, given, withoutErr := Give(s, place(2), place(5))
	return []any{Right(s), about, aboutErr, handled, sends, err, with, left, withErr, without, given, withoutErr}
}

// spoil writes over the lists of an answer, and all there is room for behind them.
func spoil(l []any) {
	for _, x := range l {
		switch x := x.(type) {
		case api.Server:
			spoilTriggers(x.Table)
		case []api.Trigger:
			spoilTriggers(x)
		case []api.Send:
			for i := range x[:cap(x)] {
				stack := x[:cap(x)][i].Msg.Stack
				for k := range stack[:cap(stack)] {
					stack[:cap(stack)][k] = toHost(14)
				}
			}
		}
	}
}

func spoilTriggers(l []api.Trigger) {
	for i := range l[:cap(l)] {
		l[:cap(l)][i] = trig(filled(17), toHost(14), 17)
	}
}

func TestAnswersAreNewMemory(t *testing.T) {
	for _, n := range []int{0, 1, 10, 20, 31, 32} {
		for _, m := range takenMessages() {
			table := append(make([]api.Trigger, 0, 80), sized(40)...)
			stack := append(make([]api.Entry, 0, 8), m.Stack...)
			handed := append(make([]api.Trigger, 0, 80), sized(12)...)
			s := of(table[:n]...)
			s.Table = table[:n]
			m.Stack = stack
			want := answers(of(sized(n)...), sized(9), m)
			got, again := answers(s, handed[:9], m), answers(s, handed[:9], m)
			spoil(got)
			if !slices.Equal(table, sized(40)) || !slices.Equal(handed, sized(12)) {
				t.Fatalf("with %d, %+v: an answer shares memory with an argument", n, m)
			}
			if len(stack) > 0 && slices.Contains(stack, toHost(14)) {
				t.Fatalf("with %d, %+v: an answer shares memory with a message", n, m)
			}
			for i := range want {
				if !likeAnswer(again[i], want[i]) {
					t.Fatalf("with %d, %+v: answer %d is %+v, want %+v", n, m, i, again[i], want[i])
				}
			}
		}
	}
}

func likeAnswer(a, b any) bool {
	switch a := a.(type) {
	case api.Server:
		return sameServer(a, b.(api.Server))
	case []api.Trigger:
		return slices.Equal(a, b.([]api.Trigger))
	case []api.Send:
		return sameSends(a, b.([]api.Send))
	}
	return reflect.DeepEqual(a, b)
}

// TestListsOfOneAnswerAreApart spoils one stack that is sent, and holds the others against what they were.
func TestListsOfOneAnswerAreApart(t *testing.T) {
	m := data(9, "hi", toId(place(3)), toId(place(4)), toHost(5), toId(place(6)))
	_, want, _ := Handle(of(sized(32)...), 19, m, 7)
	for i := range want {
		got, sends, _ := Handle(of(sized(32)...), 19, m, 7)
		stack := sends[i].Msg.Stack
		for k := range stack[:cap(stack)] {
			stack[:cap(stack)][k] = toHost(14)
		}
		for k := range sends {
			if k != i && !wire.Like(sends[k].Msg, want[k].Msg) {
				t.Errorf("%d and %d share memory", i, k)
			}
		}
		if !slices.Equal(got.Table, sized(32)) {
			t.Errorf("the table and %d share memory", i)
		}
	}
	s, given, _ := Give(of(sized(32)...), place(2), place(5))
	on, off, _ := table2(sized(32), place(2), place(5))
	spoilTriggers(given)
	if !slices.Equal(s.Table, off) || len(on) != 9 {
		t.Error("what is given shares memory with what stays")
	}
}

func TestHandOfNoneIsNewMemory(t *testing.T) {
	for _, handed := range [][]api.Trigger{nil, {trig(place(50), toHost(3), 9)}} {
		s := of(sized(32)...)
		got, _, _ := Hand(s, handed)
		spoilTriggers(got.Table)
		if !slices.Equal(s.Table, sized(32)) {
			t.Errorf("handed %+v, the answer shares memory with the server", handed)
		}
	}
}

func TestAllStaysATable(t *testing.T) {
	chance := rand.New(rand.NewSource(3))
	for range 300 {
		s := of(chanceTable(chance)...)
		rest, given, _ := Give(s, chanceId(chance), chanceId(chance))
		with, _, _ := Hand(s, chanceTable(chance))
		if !Right(rest) || !Right(with) || !table.Right(given) {
			t.Fatalf("%+v: %+v, %+v, %+v", s, rest, given, with)
		}
	}
}

func TestANilListCountsAsAnEmptyOne(t *testing.T) {
	for _, m := range takenMessages() {
		one, two := answers(api.Server{No: 3}, nil, m), answers(api.Server{No: 3, Table: []api.Trigger{}}, []api.Trigger{}, m)
		for i := range one {
			if !likeAnswer(one[i], two[i]) {
				t.Errorf("%+v: %+v and %+v", m, one[i], two[i])
			}
		}
	}
}
