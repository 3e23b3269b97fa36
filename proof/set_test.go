package proof

import (
	"slices"
	"testing"
)

func TestASetHasEachMemberOnce(t *testing.T) {
	var s set[int]
	for _, x := range []int{3, 1, 3, 2, 1, 3} {
		s.add(x)
	}
	if want := []int{3, 1, 2}; !slices.Equal(s.members, want) {
		t.Errorf("the members are %v, want %v", s.members, want)
	}
}

func TestMembersAreTakenOffOneByOne(t *testing.T) {
	var s set[string]
	if s.takeOff(func(string) bool { return true }) || !s.empty() {
		t.Error("of the empty set one is taken off")
	}
	for _, x := range []string{"a", "bb", "c", "dd"} {
		s.add(x)
	}
	short := func(x string) bool { return len(x) == 1 }
	for _, want := range [][]string{{"bb", "c", "dd"}, {"bb", "dd"}} {
		if !s.some(short) || !s.takeOff(short) || !slices.Equal(s.members, want) {
			t.Errorf("the members are %v, want %v", s.members, want)
		}
	}
	if s.some(short) || s.takeOff(short) || s.empty() || len(s.members) != 2 {
		t.Errorf("what does not fit is taken off: %v", s.members)
	}
}
