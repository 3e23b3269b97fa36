package guard

import (
	"math"
	"strings"
	"testing"

	"posthouse/api"
	"posthouse/table"
)

// comesIn has a message be taken as a trigger until some time.
func comesIn(t *testing.T, m api.Msg, now, until int) {
	t.Helper()
	want := api.Trigger{Id: m.Id, Target: m.Target, Until: until}
	if got, err := Trigger(m, now); got != want || err != api.OK {
		t.Errorf("%+v at %d: %+v, %d, want %+v", m, now, got, err, want)
	}
}

// isNone has a message be taken as no trigger.
func isNone(t *testing.T, m api.Msg, now int) {
	t.Helper()
	if got, err := Trigger(m, now); got != (api.Trigger{}) || err != api.ErrArg {
		t.Errorf("%+v at %d: %+v, %d", m, now, got, err)
	}
}

func wrongTimes() []int {
	return []int{-1, -2, -maxTick, maxTick + 1, 2 * maxTick, math.MaxInt, math.MaxInt - maxTick, math.MinInt}
}

func TestTriggerByTimes(t *testing.T) {
	for _, c := range []struct{ now, n, until int }{
		{0, 0, 0}, {0, 1, 1}, {1, 0, 1}, {5, 7, 12}, {1000, 1 << 20, 1000 + 1<<20},
		{0, maxTick - 1, maxTick - 1}, {0, maxTick, maxTick}, {1, maxTick, maxTick},
		{maxTick, 0, maxTick}, {maxTick, 1, maxTick}, {maxTick, maxTick, maxTick},
		{maxTick - 1, 0, maxTick - 1}, {maxTick - 1, 1, maxTick}, {maxTick - 1, 2, maxTick},
		{maxTick / 2, maxTick / 2, maxTick}, {maxTick / 2, maxTick/2 - 1, maxTick - 1}, {maxTick / 2, maxTick/2 + 1, maxTick},
	} {
		for _, e := range []api.Entry{toHost(0), toHost(15), toId(api.Id{}), toId(leftOf(rising(), 0)), toId(filled(255))} {
			comesIn(t, insert(rising(), e, c.n), c.now, c.until)
			comesIn(t, echo(rising(), e, c.n, "0123456789abcdef"), c.now, c.until)
		}
	}
}

// TestTriggerOfAllThatMayBe has just two of the three kinds about triggers; whether they come in is not asked.
func TestTriggerOfAllThatMayBe(t *testing.T) {
	for _, m := range rightMessages() {
		for _, now := range []int{0, 1, 77, maxTick - 1, maxTick} {
			if m.Kind == api.MRemove {
				isNone(t, m, now)
				continue
			}
			comesIn(t, m, now, min(now+m.N, 1<<40))
			x, _ := Trigger(m, now)
			if !table.Right([]api.Trigger{x}) {
				t.Errorf("%+v may not be", x)
			}
		}
		for _, now := range wrongTimes() {
			isNone(t, m, now)
		}
	}
}

func TestTriggerOfWhatMayNotBe(t *testing.T) {
	l := append(others(), ofNoKind()...)
	for _, m := range rightMessages() {
		l = append(l, spoiled(m)...)
	}
	for _, m := range l {
		for _, now := range append(wrongTimes(), 0, 1, 77, maxTick) {
			isNone(t, m, now)
		}
	}
}

// TestTriggerOfTheZeroOne tells the zero trigger's parts from none.
func TestTriggerOfTheZeroOne(t *testing.T) {
	comesIn(t, insert(api.Id{}, toId(api.Id{}), 0), 0, 0)
	comesIn(t, insert(api.Id{}, toHost(0), 0), 0, 0)
	isNone(t, insert(api.Id{}, api.Entry{}, 0), 0)
}

func TestTriggerHangsOnNothingElse(t *testing.T) {
	m := echo(rising(), toHost(3), 9, strings.Repeat("n", 16))
	m.Stack = []api.Entry{}
	comesIn(t, m, 5, 14)
	m.Nonce = nonceOf("secret", rising(), 3)
	comesIn(t, m, 5, 14)
	isNone(t, m, -1)
	comesIn(t, m, 5, 14)
}
