// Package line: those who stand one behind the other: the ready ones of a row, or those who wait for a thread.
package line

import "slices"

// Line is a line of those who stand in it, each at most once. The zero Line is empty.
type Line[T comparable] struct {
	list []T
}

// First tells who stands first, and whether somebody stands there at all.
func (l *Line[T]) First() (T, bool) {
	if len(l.list) == 0 {
		var nobody T
		return nobody, false
	}
	return l.list[0], true
}

// ComeLast puts x behind all others, wherever it stood.
func (l *Line[T]) ComeLast(x T) {
	l.Leave(x)
	l.list = append(l.list, x)
}

// Leave takes x out of the line, if it stands there.
func (l *Line[T]) Leave(x T) {
	if at := slices.Index(l.list, x); at >= 0 {
		l.list = slices.Delete(l.list, at, at+1)
	}
}
