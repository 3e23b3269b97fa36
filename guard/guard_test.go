package guard

import (
	"math/rand"
	"slices"
	"strings"
	"testing"

	"posthouse/api"
	"posthouse/wire"
)

// checkJudge holds Judge's answer against what it should be.
func checkJudge(t *testing.T, secret string, m api.Msg, what int, asks api.Msg) {
	t.Helper()
	got, gotAsks, err := Judge(secret, m)
	if got != what || !wire.Like(gotAsks, asks) || err != api.OK {
		t.Errorf("by %q, %+v: %d, %+v, %d, want %d, %+v", secret, m, got, gotAsks, err, what, asks)
	}
}

// checkRefused has Judge answer an error, and nothing else.
func checkRefused(t *testing.T, secret string, m api.Msg, want api.Errno) {
	t.Helper()
	if got, asks, err := Judge(secret, m); got != 0 || !isZero(asks) || err != want {
		t.Errorf("by a secret of %d bytes, %+v: %d, %+v, %d, want %d", len(secret), m, got, asks, err, want)
	}
}

func TestJudgeByHand(t *testing.T) {
	a := rising()
	nonce := nonceOf("secret", a, 3)
	for _, c := range []struct {
		what   string
		m      api.Msg
		judged int
		asks   api.Msg
	}{
		{"the chapter's example", insert(a, toHost(3), 9), api.GAsk, ask(a, toHost(3), nonce)},
		{"for no time", insert(a, toHost(3), 0), api.GAsk, ask(a, toHost(3), nonce)},
		{"for all time", insert(a, toHost(3), maxTick), api.GAsk, ask(a, toHost(3), nonce)},
		{"to what its key leads to", insert(a, toId(leftOf(a, 0)), 9), api.GIn, api.Msg{}},
		{"from what the other one's key comes from", insert(rightOf(a, 0), toId(a), 9), api.GIn, api.Msg{}},
		{"to an identifier that is no link", insert(a, toId(filled(9)), 9), api.GNo, api.Msg{}},
		{"to itself", insert(a, toId(a), 9), api.GNo, api.Msg{}},
		{"from what its key leads to", insert(leftOf(a, 0), toId(a), 9), api.GNo, api.Msg{}},
		{"to what its key comes from", insert(a, toId(rightOf(a, 0)), 9), api.GNo, api.Msg{}},
		{"an echo", echo(a, toHost(3), 9, nonce), api.GIn, api.Msg{}},
		{"an echo for no time", echo(a, toHost(3), 0, nonce), api.GIn, api.Msg{}},
		{"an echo for all time", echo(a, toHost(3), maxTick, nonce), api.GIn, api.Msg{}},
		{"one that goes", remove(a, toHost(3), nonce), api.GOut, api.Msg{}},
		{"an echo of another secret's nonce", echo(a, toHost(3), 9, nonceOf("secrets", a, 3)), api.GNo, api.Msg{}},
		{"an echo of another host's nonce", echo(a, toHost(3), 9, nonceOf("secret", a, 4)), api.GNo, api.Msg{}},
		{"an echo of another identifier's nonce", echo(a, toHost(3), 9, nonceOf("secret", flipBit(a, 255), 3)), api.GNo, api.Msg{}},
		{"one that another secret lets go", remove(a, toHost(3), nonceOf("", a, 3)), api.GNo, api.Msg{}},
		{"one that another host lets go", remove(a, toHost(3), nonceOf("secret", a, 0)), api.GNo, api.Msg{}},
	} {
		if got, asks, err := Judge("secret", c.m); got != c.judged || !wire.Like(asks, c.asks) || err != api.OK {
			t.Errorf("%s: %d, %+v, %d, want %d, %+v", c.what, got, asks, err, c.judged, c.asks)
		}
	}
}

func TestJudgeOfAKnownNonce(t *testing.T) {
	nonce := "\xb3\x56\xd1\x13\x0e\x69\x45\xa5\x33\xa2\x3e\x86\xeb\x24\x5d\xd6"
	checkJudge(t, "secret", insert(api.Id{}, toHost(3), 9), 1, ask(api.Id{}, toHost(3), nonce))
	checkJudge(t, "secret", echo(api.Id{}, toHost(3), 9, nonce), 2, api.Msg{})
	checkJudge(t, "secret", remove(api.Id{}, toHost(3), nonce), 3, api.Msg{})
}

func TestJudgeOfEachHost(t *testing.T) {
	for _, secret := range []string{"", "secret", "\x00\xff", strings.Repeat("x", 64)} {
		for _, a := range []api.Id{{}, filled(255), rising()} {
			for host := range 16 {
				nonce := nonceOf(secret, a, host)
				checkJudge(t, secret, insert(a, toHost(host), 9), 1, ask(a, toHost(host), nonce))
				checkJudge(t, secret, echo(a, toHost(host), 9, nonce), 2, api.Msg{})
				checkJudge(t, secret, remove(a, toHost(host), nonce), 3, api.Msg{})
				_, asks, _ := Judge(secret, insert(a, toHost(host), 9))
				if !wire.Right(asks) {
					t.Errorf("%+v may not be", asks)
				}
			}
		}
	}
}

func TestJudgeOfAWrongNonce(t *testing.T) {
	a := rising()
	for _, host := range []int{0, 3, 15} {
		nonce := nonceOf("secret", a, host)
		var wrong []string
		for k := range 128 {
			b := []byte(nonce)
			b[k/8] ^= 1 << (k % 8)
			wrong = append(wrong, string(b))
		}
		wrong = append(wrong, strings.Repeat("\x00", 16), strings.Repeat("\xff", 16), nonce[1:]+nonce[:1], string(half([]byte("secret"), a[:], []byte{byte(host)})))
		for _, x := range wrong {
			checkJudge(t, "secret", echo(a, toHost(host), 9, x), 4, api.Msg{})
			checkJudge(t, "secret", remove(a, toHost(host), x), 4, api.Msg{})
		}
	}
}

// TestJudgeEchoesOfIdentifiers has nonces and links: no identifier is let in or out by either.
func TestJudgeEchoesOfIdentifiers(t *testing.T) {
	a := rising()
	for _, b := range []api.Id{{}, a, filled(9), leftOf(a, 0), leftOf(a, 7), rightOf(a, 0)} {
		for host := range 16 {
			for _, nonce := range []string{nonceOf("secret", a, host), nonceOf("secret", b, host)} {
				checkJudge(t, "secret", echo(a, toId(b), 9, nonce), 4, api.Msg{})
				checkJudge(t, "secret", remove(a, toId(b), nonce), 4, api.Msg{})
			}
		}
	}
}

// TestJudgeLinksByKeys spoils each bit of both ends of a link.
func TestJudgeLinksByKeys(t *testing.T) {
	a := rising()
	for _, c := range []struct{ from, to api.Id }{{a, leftOf(a, 7)}, {rightOf(a, 7), a}} {
		checkJudge(t, "secret", insert(c.from, toId(c.to), 9), 2, api.Msg{})
		for k := range 256 {
			want := 2
			if k < 128 {
				want = 4
			}
			checkJudge(t, "secret", insert(flipBit(c.from, k), toId(c.to), 9), want, api.Msg{})
			checkJudge(t, "secret", insert(c.from, toId(flipBit(c.to, k)), 9), want, api.Msg{})
		}
	}
}

func TestJudgeOfAllThatMayBe(t *testing.T) {
	var seen [5]int
	for _, m := range rightMessages() {
		for _, secret := range []string{"", "secret", "x", strings.Repeat("\xff", 64), strings.Repeat("é", 32)} {
			what, asks := judged(secret, m)
			seen[what]++
			checkJudge(t, secret, m, what, asks)
		}
	}
	if slices.Min(seen[1:]) < 10 {
		t.Errorf("judged so often: %v", seen)
	}
}

func TestJudgeOfMessagesAboutNoTrigger(t *testing.T) {
	l := append(others(), ofNoKind()...)
	for _, m := range rightMessages() {
		l = append(l, spoiled(m)...)
	}
	for _, m := range l {
		for _, secret := range []string{"", "secret", strings.Repeat("x", 64)} {
			checkRefused(t, secret, m, api.ErrArg)
		}
		// Of both errors this one is named first.
		for _, n := range []int{65, 1000} {
			checkRefused(t, strings.Repeat("x", n), m, api.ErrArg)
		}
	}
}

// TestJudgeByTooLongASecret has messages that no secret counts for, too.
func TestJudgeByTooLongASecret(t *testing.T) {
	for _, secret := range []string{strings.Repeat("x", 65), strings.Repeat("\x00", 66), strings.Repeat("é", 33), strings.Repeat("x", 5000)} {
		for _, m := range rightMessages() {
			checkRefused(t, secret, m, api.ErrLong)
		}
		for _, host := range []int{0, 3} {
			nonce := nonceOf(secret, rising(), host)
			checkRefused(t, secret, echo(rising(), toHost(host), 9, nonce), api.ErrLong)
			checkRefused(t, secret, remove(rising(), toHost(host), nonce), api.ErrLong)
		}
	}
}

// TestOnlyWhatWasAsked echoes each question in each other one's place: in comes just what was asked, under just that secret.
func TestOnlyWhatWasAsked(t *testing.T) {
	a := rising()
	type asked struct {
		secret string
		id     api.Id
		host   int
	}
	var l []asked
	for _, secret := range []string{"", "secret", "secres", string(a[:]), "secret\x01", strings.Repeat("x", 64)} {
		for _, b := range []api.Id{{}, a, flipBit(a, 0), flipBit(a, 127), flipBit(a, 128), flipBit(a, 255)} {
			for _, host := range []int{0, 1, 3, 15} {
				l = append(l, asked{secret, b, host})
			}
		}
	}
	for _, of := range l {
		_, asks, _ := Judge(of.secret, insert(of.id, toHost(of.host), 9))
		for _, at := range l {
			in, out := api.GNo, api.GNo
			if at == of {
				in, out = api.GIn, api.GOut
			}
			checkJudge(t, at.secret, echo(at.id, toHost(at.host), 9, asks.Nonce), in, api.Msg{})
			checkJudge(t, at.secret, remove(at.id, toHost(at.host), asks.Nonce), out, api.Msg{})
		}
	}
}

func TestJudgeByChance(t *testing.T) {
	chance := rand.New(rand.NewSource(1))
	secrets := []string{"a", "ab", "", strings.Repeat("s", 64)}
	var seen [5]int
	for range 20000 {
		secret := secrets[chance.Intn(len(secrets))]
		m := chanceMessage(chance, secrets)
		what, asks := judged(secret, m)
		seen[what]++
		checkJudge(t, secret, m, what, asks)
	}
	if slices.Min(seen[1:]) < 500 {
		t.Errorf("judged so often: %v", seen)
	}
}

// TestInOnlyByEchoOrLink has what came in be either the echo of what is asked of just it, or a link.
func TestInOnlyByEchoOrLink(t *testing.T) {
	chance := rand.New(rand.NewSource(2))
	secrets := []string{"a", "ab", ""}
	byEcho, byLink := 0, 0
	for range 20000 {
		secret := secrets[chance.Intn(len(secrets))]
		m := chanceMessage(chance, secrets)
		what, _, _ := Judge(secret, m)
		if what != api.GIn {
			continue
		}
		if m.Target.Kind == api.EId {
			byLink++
			if m.Kind != api.MInsert || !leads(m.Id, m.Target.Id) {
				t.Errorf("by no link: %+v", m)
			}
			continue
		}
		byEcho++
		if _, asks, _ := Judge(secret, insert(m.Id, m.Target, 0)); m.Kind != api.MEcho || asks.Nonce != m.Nonce {
			t.Errorf("not as it was asked: %+v", m)
		}
	}
	if byEcho < 500 || byLink < 500 {
		t.Errorf("by echo %d, by link %d", byEcho, byLink)
	}
}

// TestJudgeHangsOnNothingElse asks in another order again, and with an empty stack in place of none.
func TestJudgeHangsOnNothingElse(t *testing.T) {
	l := rightMessages()
	slices.Reverse(l)
	for range 2 {
		for _, m := range l {
			m.Stack = []api.Entry{}
			for _, secret := range []string{"secret", ""} {
				what, asks := judged(secret, m)
				checkJudge(t, secret, m, what, asks)
			}
		}
	}
}
