// Package line: those who stand one behind the other: the ready ones of a row, or those who wait for a thread.
package line

import "slices"

// Line is a line of those who stand in it, each at most once. The zero Line is empty.
type Line[T comparable] struct {
	list []T
}

// First tells who stands first, and whether somebody stands there at all.
func (l *Line[T]) First() (T, bool) {
	return l.FirstOf(func(T) bool { return true })
}

// FirstOf tells who stands first among those that fit, and whether one of them stands there at all.
func (l *Line[T]) FirstOf(fits func(T) bool) (T, bool) {
	if at := slices.IndexFunc(l.list, fits); at >= 0 {
		return l.list[at], true
	}
	var nobody T
	return nobody, false
}

// ComeFirst puts x ahead of all others, wherever it stood.
func (l *Line[T]) ComeFirst(x T) {
	l.Leave(x)
	l.list = slices.Insert(l.list, 0, x)
}

// ComeLast puts x behind all others, wherever it stood.
func (l *Line[T]) ComeLast(x T) {
	l.Leave(x)
	l.list = append(l.list, x)
}

// Leave takes x out of the line, if it stands there.
func (l *Line[T]) Leave(x T) {
	if at := slices.Index(l.list, x); at >= 0 {
		l.list = slices.Delete(l.list, at, at+1)
	}
}
