// Package spare is for the tests alone: it tells whether the room that a list has behind its length is read, written or shared.
package spare

import (
	"slices"

	"salvor/api"
)

// Behind is l in new memory, with these in the room behind its length.
func Behind[T any](l []T, room ...T) []T {
	return slices.Concat(l, room)[:len(l)]
}

// Whole is l with what is in the room behind its length, in new memory.
func Whole[T any](l []T) []T { return slices.Clone(l[:cap(l)]) }

// Spoil writes over all of l, and over the room behind its length.
func Spoil[T any](l []T, with T) {
	for i := range l[:cap(l)] {
		l[:cap(l)][i] = with
	}
}

// Ruin writes over all of an image and all its spare room, down to the blocks.
func Ruin(i api.Image) {
	for _, n := range i.Nodes[:cap(i.Nodes)] {
		Spoil(n.C.L, api.Ext{No: 77, B: [api.Block]byte{99}})
	}
	Spoil(i.Nodes, api.Node{Ino: 88, C: api.Content{Size: 5, L: []api.Ext{{No: 3}}}})
	Spoil(i.Names, api.Name{Name: "ruin", Ino: 88})
}

// Apart tells whether no two lists of blocks of an image share any memory, spare room, too; it writes over them.
func Apart(i api.Image) bool {
	nodes := i.Nodes[:cap(i.Nodes)]
	for k, n := range nodes {
		Spoil(n.C.L, api.Ext{No: k})
	}
	for k, n := range nodes {
		if slices.ContainsFunc(n.C.L[:cap(n.C.L)], func(e api.Ext) bool { return e.No != k }) {
			return false
		}
	}
	return true
}
