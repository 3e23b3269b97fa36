package mail

import (
	"fmt"
	"math"
	"math/rand"
	"slices"
	"strings"
	"testing"

	"posthouse/api"
)

const maxTick = 1 << 40

// sized is a mail of n unlike letters, the numbers of which do not rise.
func sized(n int) api.Mail {
	m := api.Mail{Last: 1000, Now: 7}
	for i := range n {
		m.Flight = append(m.Flight, api.Letter{No: 1 + (i*37+5)%1000, From: i % 32, To: (i*7 + 3) % 32, Data: fmt.Sprint("letter ", i)})
	}
	return m
}

// changed is a copy of a mail with something done to it.
func changed(m api.Mail, change func(*api.Mail)) api.Mail {
	m.Flight = slices.Clone(m.Flight)
	change(&m)
	return m
}

// same holds mails against each other as they stand, but a nil Flight like an empty one.
func same(a, b api.Mail) bool {
	return a.Last == b.Last && a.Now == b.Now && slices.Equal(a.Flight, b.Flight)
}

// shown is a mail in short.
func shown(m api.Mail) string {
	if len(m.Flight) > 3 {
		return fmt.Sprintf("mail of %d letters, Last %d, Now %d", len(m.Flight), m.Last, m.Now)
	}
	return fmt.Sprintf("%.200v", m)
}

// rightLetters may be in a mail of which Last is 9.
func rightLetters() []api.Letter {
	return []api.Letter{
		{No: 1},
		{No: 9},
		{No: 5, From: 31, To: 31},
		{No: 5, From: 15, To: 16},
		{No: 5, From: 16, To: 15},
		{No: 5, From: 1, To: 30, Data: "a"},
		{No: 5, Data: strings.Repeat("d", 299)},
		{No: 5, Data: strings.Repeat("d", 300)},
		{No: 5, Data: strings.Repeat("\x00", 300)},
		{No: 5, Data: strings.Repeat("é", 150)},
		{No: 5, Data: "\xff\xfe\x00\n"},
	}
}

// wrongLetters may not be in a mail of which Last is 9.
func wrongLetters() []api.Letter {
	l := []api.Letter{
		{},
		{No: 5, Data: strings.Repeat("d", 301)},
		{No: 5, Data: strings.Repeat("é", 151)},
		{No: 5, Data: strings.Repeat("d", 300+256)},
		{No: 5, Data: strings.Repeat("d", 1<<16)},
	}
	for _, no := range []int{0, -1, 10, 11, 255, 256, 261, maxTick, maxTick + 1, math.MaxInt, math.MinInt} {
		l = append(l, api.Letter{No: no, From: 1, To: 2, Data: "a"})
	}
	for _, n := range noAddresses() {
		l = append(l, api.Letter{No: 5, From: n, To: 2}, api.Letter{No: 5, From: 1, To: n}, api.Letter{No: 5, From: n, To: n})
	}
	return l
}

func noAddresses() []int {
	return []int{-1, -2, -16, -31, 32, 33, 47, 63, 64, 255, 256, 1 << 32, math.MaxInt, math.MinInt}
}

func noTicks() []int {
	return []int{-1, -2, maxTick + 1, 2 * maxTick, -maxTick, math.MaxInt, math.MinInt}
}

func rightMails() []api.Mail {
	l := []api.Mail{
		{},
		{Flight: []api.Letter{}},
		{Last: 1},
		{Last: maxTick, Now: maxTick},
		{Last: maxTick - 1, Now: maxTick - 1},
		{Last: maxTick},
		{Now: maxTick},
		{Last: maxTick, Flight: []api.Letter{{No: maxTick}, {No: 1}, {No: maxTick - 1}}},
		{Last: 1, Flight: slices.Repeat([]api.Letter{{No: 1, From: 2, To: 17, Data: "a"}}, 64)},
		{Last: 9, Flight: rightLetters()},
	}
	for n := range 65 {
		l = append(l, sized(n))
	}
	for _, letter := range rightLetters() {
		l = append(l, api.Mail{Last: 9, Flight: []api.Letter{letter}})
	}
	return l
}

func wrongMails() []api.Mail {
	l := []api.Mail{
		sized(65), sized(66), sized(128), sized(256), sized(257), sized(1000),
		{Flight: []api.Letter{{No: 1}}},
		{Last: 1, Flight: make([]api.Letter, 1)},
		{Last: -1, Flight: []api.Letter{{No: -1}}},
		{Last: maxTick + 1, Flight: []api.Letter{{No: maxTick + 1}}},
		{Last: math.MaxInt, Flight: []api.Letter{{No: 1}}},
	}
	for _, n := range noTicks() {
		l = append(l, api.Mail{Last: n}, api.Mail{Now: n}, api.Mail{Last: n, Now: n}, changed(sized(3), func(m *api.Mail) { m.Now = n }))
	}
	for _, wrong := range wrongLetters() {
		l = append(l, api.Mail{Last: 9, Flight: []api.Letter{wrong}})
		for place := range len(rightLetters()) {
			l = append(l, changed(api.Mail{Last: 9, Flight: rightLetters()}, func(m *api.Mail) { m.Flight[place] = wrong }))
		}
	}
	for place := range 64 {
		l = append(l,
			changed(sized(64), func(m *api.Mail) { m.Flight[place].No = 0 }),
			changed(sized(64), func(m *api.Mail) { m.Flight[place].No = m.Last + 1 }),
			changed(sized(64), func(m *api.Mail) { m.Flight[place].From = 32 }),
			changed(sized(64), func(m *api.Mail) { m.Flight[place].To = -1 }),
			changed(sized(64), func(m *api.Mail) { m.Flight[place].Data = strings.Repeat("d", 301) }),
		)
	}
	return l
}

// noPlaces are no places of a mail of n letters.
func noPlaces(n int) []int {
	return []int{-1, -2, -n - 1, n, n + 1, n + 64, 256, 1 << 32, math.MaxInt, math.MinInt}
}

// calls are all calls that answer a mail and an error, by names; what else they answer must be zero beside an error.
func calls(t *testing.T, place int) map[string]func(api.Mail) (api.Mail, api.Errno) {
	return map[string]func(api.Mail) (api.Mail, api.Errno){
		"Take": func(m api.Mail) (api.Mail, api.Errno) {
			left, l, err := Take(m, place)
			if err != api.OK && l != (api.Letter{}) {
				t.Errorf("Take: %v beside an error", l)
			}
			return left, err
		},
		"Twice": func(m api.Mail) (api.Mail, api.Errno) { return Twice(m, place) },
		"Lose":  func(m api.Mail) (api.Mail, api.Errno) { return Lose(m, place) },
		"Last":  func(m api.Mail) (api.Mail, api.Errno) { return Last(m, place) },
		"Pass":  func(m api.Mail) (api.Mail, api.Errno) { return Pass(m, place) },
		"Post":  func(m api.Mail) (api.Mail, api.Errno) { return post(t, m, place, 17, "a") },
	}
}

// post is Post without the number, which must be zero beside an error.
func post(t *testing.T, m api.Mail, from, to int, data string) (api.Mail, api.Errno) {
	m, no, err := Post(m, from, to, data)
	if err != api.OK && no != 0 {
		t.Errorf("Post: number %d beside an error", no)
	}
	return m, err
}

// refused holds an answer to be an error, and the zero mail beside it.
func refused(t *testing.T, what string, m api.Mail, err, want api.Errno) {
	t.Helper()
	if err != want || !same(m, api.Mail{}) {
		t.Errorf("%s: %s, %d, want %d and nothing", what, shown(m), err, want)
	}
}

func TestMailsThatMayBe(t *testing.T) {
	for _, m := range rightMails() {
		if !Right(m) {
			t.Errorf("%s may be", shown(m))
		}
	}
}

func TestMailsThatMayNotBe(t *testing.T) {
	for _, m := range wrongMails() {
		if Right(m) {
			t.Errorf("%s may not be", shown(m))
		}
	}
}

func TestMailsThatMayNotBeAreAWrongArgumentAheadOfAllElse(t *testing.T) {
	for _, m := range wrongMails() {
		for _, place := range []int{0, 1, -1, 63, 64, 65, 1000, math.MaxInt, math.MinInt} {
			for name, call := range calls(t, place) {
				got, err := call(m)
				refused(t, fmt.Sprint(name, " of ", place), got, err, api.ErrArg)
			}
		}
		got, err := post(t, m, 1, 2, strings.Repeat("d", 301))
		refused(t, "Post of too much data", got, err, api.ErrArg)
	}
}

func TestAMailIsHeldAgainstLastAndNowEach(t *testing.T) {
	ticks := []int{math.MinInt, -maxTick, -1, 0, 1, 4, 5, 6, maxTick - 1, maxTick, maxTick + 1, math.MaxInt}
	for _, last := range ticks {
		for _, now := range ticks {
			for _, no := range ticks {
				fits := last >= 0 && last <= maxTick && now >= 0 && now <= maxTick
				if got := Right(api.Mail{Last: last, Now: now}); got != fits {
					t.Errorf("Last %d, Now %d: %v", last, now, got)
				}
				fits = fits && no >= 1 && no <= last
				if got := Right(api.Mail{Last: last, Now: now, Flight: []api.Letter{{No: no}}}); got != fits {
					t.Errorf("Last %d, Now %d, a letter %d: %v", last, now, no, got)
				}
			}
		}
	}
}

func TestPostPutsALetterBehindAllOthers(t *testing.T) {
	for _, m := range rightMails() {
		if len(m.Flight) == 64 || m.Last == maxTick {
			continue
		}
		for _, data := range []string{"", "a", "\x00\xff\n", strings.Repeat("d", 299), strings.Repeat("d", 300)} {
			got, no, err := Post(m, 3, 20, data)
			want := changed(m, func(m *api.Mail) {
				m.Last++
				m.Flight = append(m.Flight, api.Letter{No: m.Last, From: 3, To: 20, Data: data})
			})
			if err != api.OK || no != m.Last+1 || !same(got, want) {
				t.Errorf("%s: %s, %d, %d", shown(m), shown(got), no, err)
			}
		}
	}
}

func TestPostBetweenAllAddresses(t *testing.T) {
	for from := -40; from < 80; from++ {
		for to := -40; to < 80; to++ {
			got, no, err := Post(sized(2), from, to, "a")
			if from < 0 || from > 31 || to < 0 || to > 31 {
				if no != 0 {
					t.Errorf("from %d to %d: number %d", from, to, no)
				}
				refused(t, fmt.Sprint("from ", from, " to ", to), got, err, api.ErrArg)
				continue
			}
			if err != api.OK || no != 1001 || got.Flight[2] != (api.Letter{No: 1001, From: from, To: to, Data: "a"}) {
				t.Errorf("from %d to %d: %s, %d, %d", from, to, shown(got), no, err)
			}
		}
	}
}

func TestPostOfEachLength(t *testing.T) {
	for n := range 700 {
		got, err := post(t, sized(1), 1, 2, strings.Repeat("d", n))
		if n > 300 {
			refused(t, fmt.Sprint(n, " bytes"), got, err, api.ErrLong)
		} else if err != api.OK || len(got.Flight[1].Data) != n {
			t.Errorf("%d bytes: %d", n, err)
		}
	}
	got, err := post(t, sized(1), 1, 2, strings.Repeat("é", 151))
	refused(t, "302 bytes of 151 letters", got, err, api.ErrLong)
}

func TestPostOnAFullMail(t *testing.T) {
	for _, m := range []api.Mail{
		sized(64),
		{Last: 1, Flight: slices.Repeat([]api.Letter{{No: 1}}, 64)},
		{Last: maxTick},
		{Last: maxTick, Now: maxTick},
		changed(sized(5), func(m *api.Mail) { m.Last = maxTick }),
		changed(sized(64), func(m *api.Mail) { m.Last = maxTick }),
	} {
		got, err := post(t, m, 1, 2, "a")
		refused(t, shown(m), got, err, api.ErrFull)
		got, err = post(t, m, 1, 2, strings.Repeat("d", 301))
		refused(t, "too much data, "+shown(m), got, err, api.ErrLong)
		for _, n := range noAddresses() {
			got, err = post(t, m, n, 2, strings.Repeat("d", 301))
			refused(t, "no address, too much data, "+shown(m), got, err, api.ErrArg)
			got, err = post(t, m, 1, n, "a")
			refused(t, "no address, "+shown(m), got, err, api.ErrArg)
		}
	}
}

func TestPostUpToTheLastNumber(t *testing.T) {
	m, no, err := Post(api.Mail{Last: maxTick - 1, Now: maxTick}, 1, 2, "a")
	if err != api.OK || no != maxTick || m.Last != maxTick || m.Now != maxTick || m.Flight[0].No != maxTick {
		t.Errorf("%s, %d, %d", shown(m), no, err)
	}
	m, err = post(t, m, 1, 2, "a")
	refused(t, "no number is left", m, err, api.ErrFull)
}

func TestPostUntilTheMailIsFull(t *testing.T) {
	m := api.Mail{}
	for n := range 64 {
		got, no, err := Post(m, 1, 2, "a")
		if err != api.OK || no != n+1 || len(got.Flight) != n+1 {
			t.Fatalf("letter %d: %s, %d, %d", n, shown(got), no, err)
		}
		m = got
	}
	got, err := post(t, m, 1, 2, "a")
	refused(t, "letter 65", got, err, api.ErrFull)
	m, _ = Lose(m, 10)
	if got, no, err := Post(m, 1, 2, "a"); err != api.OK || no != 65 || len(got.Flight) != 64 {
		t.Errorf("behind a lost one: %s, %d, %d", shown(got), no, err)
	}
}

func TestPassAddsTicks(t *testing.T) {
	for _, now := range []int{0, 1, 7, maxTick / 2, maxTick - 1, maxTick} {
		for _, ticks := range []int{0, 1, 2, 1000, maxTick / 2, maxTick - 7, maxTick - 1, maxTick, maxTick + 1, math.MaxInt - maxTick, math.MaxInt - 1, math.MaxInt} {
			for n := range 65 {
				m := changed(sized(n), func(m *api.Mail) { m.Now = now })
				want := maxTick
				if ticks <= maxTick && now+ticks < maxTick {
					want = now + ticks
				}
				got, err := Pass(m, ticks)
				if err != api.OK || !same(got, changed(m, func(m *api.Mail) { m.Now = want })) {
					t.Fatalf("%d ticks from %d on: %s, %d", ticks, now, shown(got), err)
				}
			}
		}
	}
}

func TestPassOfTicksBelowNone(t *testing.T) {
	for _, ticks := range []int{-1, -2, -7, -maxTick, math.MinInt + 1, math.MinInt} {
		for _, m := range rightMails() {
			got, err := Pass(m, ticks)
			refused(t, fmt.Sprint(ticks, " ticks"), got, err, api.ErrArg)
		}
	}
}

func TestNoLetterIsOfAPlaceThatIsNone(t *testing.T) {
	for n := range 65 {
		for _, place := range noPlaces(n) {
			all := calls(t, place)
			delete(all, "Pass")
			delete(all, "Post")
			for name, call := range all {
				got, err := call(sized(n))
				refused(t, fmt.Sprint(name, " of ", place, " of ", n), got, err, api.ErrNone)
			}
		}
	}
	for _, m := range []api.Mail{{}, {Flight: []api.Letter{}}, {Last: maxTick, Now: maxTick}} {
		got, _, err := Take(m, 0)
		refused(t, "of none", got, err, api.ErrNone)
	}
}

// eachPlace goes through all places of mails of all sizes.
func eachPlace(try func(m api.Mail, place int)) {
	for _, m := range rightMails() {
		for place := range m.Flight {
			try(m, place)
		}
	}
}

// cut is a mail without the letter of a place.
func cut(m api.Mail, place int) api.Mail {
	return changed(m, func(m *api.Mail) { m.Flight = slices.Delete(m.Flight, place, place+1) })
}

func TestTakeOfEachPlace(t *testing.T) {
	eachPlace(func(m api.Mail, place int) {
		got, l, err := Take(m, place)
		if err != api.OK || l != m.Flight[place] || !same(got, cut(m, place)) {
			t.Errorf("%d of %s: %s, %v, %d", place, shown(m), shown(got), l, err)
		}
	})
}

func TestLoseOfEachPlace(t *testing.T) {
	eachPlace(func(m api.Mail, place int) {
		if got, err := Lose(m, place); err != api.OK || !same(got, cut(m, place)) {
			t.Errorf("%d of %s: %s, %d", place, shown(m), shown(got), err)
		}
	})
}

func TestTwiceOfEachPlace(t *testing.T) {
	eachPlace(func(m api.Mail, place int) {
		got, err := Twice(m, place)
		if len(m.Flight) == 64 {
			refused(t, fmt.Sprint(place, " of 64"), got, err, api.ErrFull)
			return
		}
		want := changed(m, func(m *api.Mail) { m.Flight = append(m.Flight, m.Flight[place]) })
		if err != api.OK || !same(got, want) {
			t.Errorf("%d of %s: %s, %d", place, shown(m), shown(got), err)
		}
	})
}

func TestLastOfEachPlace(t *testing.T) {
	eachPlace(func(m api.Mail, place int) {
		want := cut(m, place)
		want.Flight = append(want.Flight, m.Flight[place])
		if got, err := Last(m, place); err != api.OK || !same(got, want) {
			t.Errorf("%d of %s: %s, %d", place, shown(m), shown(got), err)
		}
	})
}

func TestTheExample(t *testing.T) {
	m, _ := post(t, api.Mail{}, 1, 2, "a")
	m, _ = post(t, m, 1, 2, "b")
	m, _ = Last(m, 0)
	left, l, err := Take(m, 0)
	if err != api.OK || l != (api.Letter{No: 2, From: 1, To: 2, Data: "b"}) || len(left.Flight) != 1 || left.Flight[0].Data != "a" {
		t.Errorf("%s, %v, %d", shown(left), l, err)
	}
}

// posted is a mail to which n letters were posted, and those letters.
func posted(t *testing.T, n int) (api.Mail, []api.Letter) {
	var m api.Mail
	var l []api.Letter
	for i := range n {
		letter := api.Letter{From: i % 32, To: 31 - i%32, Data: fmt.Sprint("letter ", i)}
		got, no, err := Post(m, letter.From, letter.To, letter.Data)
		if err != api.OK {
			t.Fatal(err)
		}
		letter.No = no
		m, l = got, append(l, letter)
	}
	return m, l
}

// orders goes through all orders in which all letters of a mail may be taken.
func orders(t *testing.T, m api.Mail, taken []api.Letter, try func([]api.Letter)) {
	if len(m.Flight) == 0 {
		try(taken)
	}
	for place := range m.Flight {
		left, l, err := Take(m, place)
		if err != api.OK {
			t.Fatal(err)
		}
		orders(t, left, append(taken, l), try)
	}
}

func TestEachLetterIsTakenOnceInEveryOrder(t *testing.T) {
	m, letters := posted(t, 6)
	seen := map[string]bool{}
	orders(t, m, nil, func(taken []api.Letter) {
		seen[fmt.Sprint(taken)] = true
		sorted := slices.Clone(taken)
		slices.SortFunc(sorted, func(a, b api.Letter) int { return a.No - b.No })
		if !slices.Equal(sorted, letters) {
			t.Errorf("taken %v", taken)
		}
	})
	if len(seen) != 6*5*4*3*2 {
		t.Errorf("%d orders", len(seen))
	}
}

// TestWhatIsTakenWasPostedSo does this and that by chance, and holds how often each letter was taken against how often it was posted, had twice, and lost.
func TestWhatIsTakenWasPostedSo(t *testing.T) {
	for _, kinds := range [][]string{{"post", "take", "last", "pass"}, {"post", "post", "take", "last", "pass", "twice", "lose"}} {
		chance := rand.New(rand.NewSource(6))
		for range 300 {
			var m api.Mail
			left := map[api.Letter]int{}
			for range 300 {
				m = step(t, m, kinds[chance.Intn(len(kinds))], chance, left)
			}
			for len(m.Flight) > 0 {
				m = step(t, m, "take", chance, left)
			}
			for l, n := range left {
				if n != 0 {
					t.Fatalf("%v is left %d times", l, n)
				}
			}
		}
	}
}

// step does one thing to a mail, and counts how often each letter is left in it.
func step(t *testing.T, m api.Mail, kind string, chance *rand.Rand, left map[api.Letter]int) api.Mail {
	t.Helper()
	if kind == "post" {
		letter := api.Letter{From: chance.Intn(32), To: chance.Intn(32), Data: strings.Repeat("d", chance.Intn(301))}
		got, no, err := Post(m, letter.From, letter.To, letter.Data)
		if err == api.ErrFull && len(m.Flight) == 64 {
			return m
		}
		letter.No = no
		if err != api.OK || left[letter] != 0 {
			t.Fatalf("posted: %v, %d", letter, err)
		}
		left[letter]++
		return got
	}
	if kind == "pass" {
		got, err := Pass(m, chance.Intn(1000))
		if err != api.OK {
			t.Fatalf("passed: %d", err)
		}
		return got
	}
	if len(m.Flight) == 0 {
		return m
	}
	place := chance.Intn(len(m.Flight))
	got, err := calls(t, place)[strings.ToUpper(kind[:1])+kind[1:]](m)
	if kind == "twice" && err == api.ErrFull && len(m.Flight) == 64 {
		return m
	}
	if err != api.OK {
		t.Fatalf("%s: %d", kind, err)
	}
	switch kind {
	case "take":
		_, l, _ := Take(m, place)
		left[l]--
		if left[l] < 0 {
			t.Fatalf("taken too often: %v", l)
		}
	case "twice":
		left[m.Flight[place]]++
	case "lose":
		left[m.Flight[place]]--
	}
	return got
}

func TestCallsChangeNothing(t *testing.T) {
	for _, m := range append(rightMails(), wrongMails()...) {
		ahead := changed(m, func(*api.Mail) {})
		Right(m)
		for _, place := range []int{0, 1, len(m.Flight) - 1, len(m.Flight), -1} {
			for name, call := range calls(t, place) {
				call(m)
				if !same(m, ahead) {
					t.Fatalf("%s of %d changed its mail", name, place)
				}
			}
		}
	}
}

func TestAnswersAreNewMemory(t *testing.T) {
	for n := 1; n < 64; n++ {
		for name, call := range calls(t, n/2) {
			room := sized(n)
			room.Flight = slices.Grow(room.Flight, 70)
			ahead := slices.Clone(room.Flight[:n+4])
			one, err := call(room)
			if err != api.OK {
				t.Fatalf("%s: %d", name, err)
			}
			for i := range one.Flight {
				one.Flight[i] = api.Letter{No: 999}
			}
			if !slices.Equal(ahead, room.Flight[:n+4]) {
				t.Errorf("an answer of %s shares memory with its mail", name)
			}
			two, _ := call(room)
			if len(two.Flight) > 0 && two.Flight[0].No == 999 {
				t.Errorf("two answers of %s share memory", name)
			}
		}
	}
}

func TestSameArgumentsSameAnswer(t *testing.T) {
	for _, m := range rightMails() {
		for name, call := range calls(t, len(m.Flight)/2) {
			one, oneErr := call(m)
			two, twoErr := call(changed(m, func(*api.Mail) {}))
			if oneErr != twoErr || !same(one, two) {
				t.Errorf("%s answers unlike at the same mail", name)
			}
		}
	}
}

func TestANilFlightCountsAsAnEmptyOne(t *testing.T) {
	for name, call := range calls(t, 0) {
		one, oneErr := call(api.Mail{Last: 3})
		two, twoErr := call(api.Mail{Last: 3, Flight: []api.Letter{}})
		if oneErr != twoErr || !same(one, two) {
			t.Errorf("%s: %v, %d and %v, %d", name, one, oneErr, two, twoErr)
		}
	}
	if !Right(api.Mail{Flight: nil}) || !Right(api.Mail{Flight: []api.Letter{}}) {
		t.Error("a mail of none may be")
	}
}

func TestPlacesStopsWhereItIsLeft(t *testing.T) {
	var seen []int
	for place, l := range places(sized(9)) {
		if l != sized(9).Flight[place] {
			t.Errorf("place %d: %v", place, l)
		}
		if seen = append(seen, place); place == 4 {
			break
		}
	}
	if !slices.Equal(seen, []int{0, 1, 2, 3, 4}) {
		t.Error(seen)
	}
}
