package spare_test

import (
	"slices"
	"testing"

	"salvor/api"
	"salvor/spare"
)

func TestSpare(t *testing.T) {
	l := []int{1, 2}
	room := spare.Behind(l, 3, 4)
	if !slices.Equal(room, l) || !slices.Equal(room[:4], []int{1, 2, 3, 4}) {
		t.Errorf("%v, whole %v", room, room[:4])
	}
	whole := spare.Whole(room)
	if len(whole) < 4 || !slices.Equal(whole[:4], []int{1, 2, 3, 4}) {
		t.Errorf("the whole is %v", whole)
	}
	spare.Spoil(room[:1], 9)
	if !slices.Equal(room[:4], []int{9, 9, 9, 9}) {
		t.Errorf("spoilt it is %v", room[:4])
	}
	if !slices.Equal(l, []int{1, 2}) || !slices.Equal(whole[:4], []int{1, 2, 3, 4}) {
		t.Errorf("%v or %v is spoilt, too", l, whole)
	}
	spare.Spoil[int](nil, 9)
	if len(spare.Whole[int](nil)) != 0 || len(spare.Behind[int](nil)) != 0 {
		t.Error("nothing has room")
	}
}

// twoFiles is an image whose lists have spare room, with a file in that of the nodes.
func twoFiles() api.Image {
	return api.Image{
		Names: spare.Behind([]api.Name{{Name: "a", Ino: 1}}, api.Name{Name: "b", Ino: 2}),
		Nodes: spare.Behind(
			[]api.Node{{Ino: 1, C: api.Content{L: spare.Behind([]api.Ext{{No: 1}}, api.Ext{No: 2})}}},
			api.Node{Ino: 2, C: api.Content{L: []api.Ext{{No: 3}}}}),
	}
}

func TestRuin(t *testing.T) {
	i := twoFiles()
	blocks, behind := i.Nodes[0].C.L[:2], i.Nodes[:2][1].C.L
	spare.Ruin(i)
	for _, e := range slices.Concat(blocks, behind) {
		if e.No != 77 || e.B[0] != 99 {
			t.Errorf("block %v stays", e)
		}
	}
	for k := range 2 {
		if i.Names[:2][k].Name != "ruin" || i.Nodes[:2][k].Ino != 88 {
			t.Errorf("%v and %v stay", i.Names[:2], i.Nodes[:2])
		}
	}
	spare.Ruin(api.Image{})
}

func TestApart(t *testing.T) {
	if !spare.Apart(twoFiles()) || !spare.Apart(api.Image{}) {
		t.Error("what is apart is told to share")
	}
	for _, share := range []func(i api.Image){
		func(i api.Image) { i.Nodes[:2][1].C.L = i.Nodes[0].C.L },
		func(i api.Image) { i.Nodes[:2][1].C.L = i.Nodes[0].C.L[:0] },
		func(i api.Image) { i.Nodes[:2][1].C.L = i.Nodes[0].C.L[1:] },
	} {
		i := twoFiles()
		share(i)
		if spare.Apart(i) {
			t.Error("what shares is told to be apart")
		}
	}
}
