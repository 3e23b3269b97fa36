package guard

import (
	"bytes"
	"crypto/sha256"
	"math"
	"math/rand"
	"strings"

	"posthouse/api"
	"posthouse/wire"
)

const maxTick = 1 << 40

// rising has the bytes 1 to 32.
func rising() api.Id {
	var a api.Id
	for i := range a {
		a[i] = byte(i + 1)
	}
	return a
}

func filled(b byte) api.Id { return api.Id(bytes.Repeat([]byte{b}, 32)) }

func toId(a api.Id) api.Entry { return api.Entry{Kind: api.EId, Id: a} }

func toHost(n int) api.Entry { return api.Entry{Kind: api.EHost, Host: n} }

func insert(a api.Id, target api.Entry, n int) api.Msg {
	return api.Msg{Kind: api.MInsert, Id: a, Target: target, N: n}
}

func ask(a api.Id, target api.Entry, nonce string) api.Msg {
	return api.Msg{Kind: api.MAsk, Id: a, Target: target, Nonce: nonce}
}

func echo(a api.Id, target api.Entry, n int, nonce string) api.Msg {
	return api.Msg{Kind: api.MEcho, Id: a, Target: target, N: n, Nonce: nonce}
}

func remove(a api.Id, target api.Entry, nonce string) api.Msg {
	return api.Msg{Kind: api.MRemove, Id: a, Target: target, Nonce: nonce}
}

func flipBit(a api.Id, k int) api.Id {
	a[k/8] ^= 128 >> (k % 8)
	return a
}

// half is the first 16 bytes of the sum of some bytes, by another SHA-256.
func half(parts ...[]byte) []byte {
	sum := sha256.Sum256(bytes.Join(parts, nil))
	return sum[:16]
}

// nonceOf is chapter 3's nonce.
func nonceOf(secret string, a api.Id, host int) string {
	return string(half([]byte("nonce"), []byte(secret), a[:], []byte{byte(host)}))
}

// leads is what chapter 3 says of one that may lead to another one.
func leads(a, b api.Id) bool {
	return bytes.Equal(b[:16], half([]byte("left"), a[:16])) || bytes.Equal(a[:16], half([]byte("right"), b[:16]))
}

// leftOf is what an identifier's key leads to, with other bytes behind it; rightOf is so what it comes from.
func leftOf(a api.Id, tail byte) api.Id { return withKey(half([]byte("left"), a[:16]), tail) }

func rightOf(a api.Id, tail byte) api.Id { return withKey(half([]byte("right"), a[:16]), tail) }

func withKey(key []byte, tail byte) api.Id {
	a := filled(tail)
	copy(a[:], key)
	return a
}

// judged is a second way to Judge's answer, of a message about a trigger and a secret that is not too long.
func judged(secret string, m api.Msg) (int, api.Msg) {
	isHost := m.Target.Kind == api.EHost
	nonce := nonceOf(secret, m.Id, m.Target.Host)
	switch {
	case m.Kind == api.MInsert && isHost:
		return 1, ask(m.Id, m.Target, nonce)
	case m.Kind == api.MInsert && leads(m.Id, m.Target.Id):
		return 2, api.Msg{}
	case m.Kind == api.MEcho && isHost && m.Nonce == nonce:
		return 2, api.Msg{}
	case m.Kind == api.MRemove && isHost && m.Nonce == nonce:
		return 3, api.Msg{}
	}
	return 4, api.Msg{}
}

// isZero tells whether a message has no field.
func isZero(m api.Msg) bool { return wire.Like(m, api.Msg{}) }

// rightMessages are messages about triggers, of each kind, with each of their fields at its ends.
func rightMessages() []api.Msg {
	var l []api.Msg
	for _, a := range []api.Id{{}, filled(255), rising()} {
		for _, e := range []api.Entry{toHost(0), toHost(3), toHost(15), toId(api.Id{}), toId(a), toId(leftOf(a, 0)), toId(rightOf(a, 0))} {
			for _, n := range []int{0, 1, maxTick} {
				l = append(l, insert(a, e, n))
				for _, nonce := range []string{strings.Repeat("\x00", 16), "0123456789abcdef", nonceOf("", a, e.Host), nonceOf("secret", a, e.Host)} {
					l = append(l, echo(a, e, n, nonce), remove(a, e, nonce))
				}
			}
		}
	}
	return l
}

func wrongEntries() []api.Entry {
	return []api.Entry{
		{}, {Host: 3}, {Id: rising()}, {Kind: 3}, {Kind: -1}, {Kind: 257}, {Kind: math.MaxInt},
		{Kind: api.EId, Host: 1}, {Kind: api.EId, Id: rising(), Host: -1}, {Kind: api.EId, Id: leftOf(rising(), 0), Host: 3},
		{Kind: api.EHost, Id: api.Id{31: 1}}, {Kind: api.EHost, Id: rising(), Host: 3},
		toHost(-1), toHost(16), toHost(256), toHost(256 + 3), toHost(math.MaxInt), toHost(math.MinInt),
	}
}

// spoiled are messages that may not be, as just one field of a right one is spoiled.
func spoiled(m api.Msg) []api.Msg {
	var l []api.Msg
	add := func(spoil func(m *api.Msg)) {
		x := m
		spoil(&x)
		l = append(l, x)
	}
	for _, e := range wrongEntries() {
		add(func(m *api.Msg) { m.Target = e })
	}
	for _, n := range []int{-1, -maxTick, maxTick + 1, math.MaxInt, math.MinInt} {
		add(func(m *api.Msg) { m.N = n })
	}
	for _, n := range []int{1, 15, 17, 32, 16 + 256} {
		add(func(m *api.Msg) { m.Nonce = strings.Repeat("n", n) })
	}
	add(func(m *api.Msg) { m.Data = "x" })
	add(func(m *api.Msg) { m.Stack = []api.Entry{toHost(3)} })
	if m.Kind == api.MInsert {
		add(func(m *api.Msg) { m.Nonce = "0123456789abcdef" })
	} else {
		add(func(m *api.Msg) { m.Nonce = "" })
		add(func(m *api.Msg) { m.Nonce = m.Nonce[1:] })
		add(func(m *api.Msg) { m.Nonce += "\x00" })
	}
	if m.Kind == api.MRemove {
		add(func(m *api.Msg) { m.N = 1 })
	}
	return l
}

// others are messages that may be, about no trigger that is judged.
func others() []api.Msg {
	a, nonce := rising(), "0123456789abcdef"
	return []api.Msg{
		{Kind: api.MData, Stack: []api.Entry{toHost(3)}, N: 3, Data: "hi"},
		{Kind: api.MData, Stack: []api.Entry{toId(a)}},
		ask(a, toHost(3), nonce), ask(a, toHost(3), nonceOf("secret", a, 3)), ask(a, toId(leftOf(a, 0)), nonce),
		{Kind: api.MAck, Id: a, Target: toHost(3)}, {Kind: api.MAck, Id: a, Target: toId(leftOf(a, 0))},
		{Kind: api.MPush, Id: a}, {Kind: api.MCache, Id: a, N: 3}, {Kind: api.MFind, Id: a, N: 3}, {Kind: api.MFound, Id: a, N: 3},
	}
}

// ofNoKind are messages of numbers that are no kind.
func ofNoKind() []api.Msg {
	l := []api.Msg{{}}
	for _, kind := range []int{0, -2, -1, 11, 12, 256, 256 + 2, 256 + 4, 1<<32 + 6, math.MaxInt, math.MinInt} {
		for _, m := range []api.Msg{insert(rising(), toHost(3), 3), echo(rising(), toHost(3), 3, nonceOf("secret", rising(), 3))} {
			m.Kind = kind
			l = append(l, m)
		}
	}
	return l
}

func chanceId(chance *rand.Rand) api.Id {
	a := api.Id{0: byte(chance.Intn(3))}
	if chance.Intn(3) == 0 {
		a[16] = byte(chance.Intn(2))
	}
	return a
}

// chanceMessage is a message about a trigger, whose nonce or link is often right.
func chanceMessage(chance *rand.Rand, secrets []string) api.Msg {
	a := chanceId(chance)
	target := toHost(chance.Intn(4))
	switch chance.Intn(6) {
	case 0:
		target = toId(leftOf(a, byte(chance.Intn(2))))
	case 1:
		target = toId(chanceId(chance))
		a = rightOf(target.Id, byte(chance.Intn(2)))
	case 2:
		target = toId(chanceId(chance))
	}
	nonce := nonceOf(secrets[chance.Intn(len(secrets))], a, target.Host)
	switch chance.Intn(8) {
	case 0:
		nonce = nonceOf(secrets[0], chanceId(chance), chance.Intn(4))
	case 1:
		nonce = nonce[1:] + nonce[:1]
	}
	switch chance.Intn(3) {
	case 0:
		return insert(a, target, chance.Intn(100))
	case 1:
		return echo(a, target, chance.Intn(100), nonce)
	}
	return remove(a, target, nonce)
}
