// Package spare is for the tests alone: it tells whether the room that a list has behind its length is read, written or shared.
package spare

import "slices"

// Behind is l in new memory, with these in the room behind its length.
func Behind[T any](l []T, room ...T) []T {
	return slices.Concat(l, room)[:len(l)]
}

// Whole is l with what is in the room behind its length, in new memory.
func Whole[T any](l []T) []T { return slices.Clone(l[:cap(l)]) }

// Spoil writes over all of l, and over the room behind its length.
func Spoil[T any](l []T, with T) {
	for i := range l[:cap(l)] {
		l[:cap(l)][i] = with
	}
}
