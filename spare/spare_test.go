package spare_test

import (
	"slices"
	"testing"

	"salvor/spare"
)

func TestSpare(t *testing.T) {
	l := []int{1, 2}
	room := spare.Behind(l, 3, 4)
	if !slices.Equal(room, l) || !slices.Equal(room[:4], []int{1, 2, 3, 4}) {
		t.Errorf("%v, whole %v", room, room[:4])
	}
	whole := spare.Whole(room)
	if len(whole) < 4 || !slices.Equal(whole[:4], []int{1, 2, 3, 4}) {
		t.Errorf("the whole is %v", whole)
	}
	spare.Spoil(room[:1], 9)
	if !slices.Equal(room[:4], []int{9, 9, 9, 9}) {
		t.Errorf("spoilt it is %v", room[:4])
	}
	if !slices.Equal(l, []int{1, 2}) || !slices.Equal(whole[:4], []int{1, 2, 3, 4}) {
		t.Errorf("%v or %v is spoilt, too", l, whole)
	}
	spare.Spoil[int](nil, 9)
	if len(spare.Whole[int](nil)) != 0 || len(spare.Behind[int](nil)) != 0 {
		t.Error("nothing has room")
	}
}
