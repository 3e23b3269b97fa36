package spread

import (
	"slices"
	"testing"
)

func TestQueueGivesWhatCameFirst(t *testing.T) {
	var q queue[int]
	var want []int
	next := 0
	for round := range 50 {
		for range round % 4 {
			q.put(next)
			want = append(want, next)
			next++
		}
		if q.size() != len(want) {
			t.Fatalf("size %d, want %d", q.size(), len(want))
		}
		if len(want) > 0 {
			if got := q.take(); got != want[0] {
				t.Fatalf("took %d, want %d", got, want[0])
			}
			want = want[1:]
		}
	}
	var rest []int
	for q.size() > 0 {
		rest = append(rest, q.take())
	}
	if len(rest) == 0 || !slices.Equal(rest, want) {
		t.Errorf("the rest is %v, want %v", rest, want)
	}
}
