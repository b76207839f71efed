// Package core: the machine inside a kernel: its threads, rows, spaces and frames. What it denies, it denies by the errors of package deny.
package core

import (
	"embassy/api"
	"embassy/deny"
	"embassy/line"
)

// nobody stands where a thread's number could be, nothing where a page's could.
const (
	nobody  = -1
	nothing = -1
)

// Machine is all that is kept from call to call. The zero Machine has no threads and no spaces.
type Machine struct {
	// A clock of 64 bits without a sign has room for any wait from any time on.
	clock   uint64
	threads []thread
	rows    [api.Rows]line.Line[int]
	spaces  []space
	frames  [api.Frames]frame
}

type thread struct {
	place   api.Place
	left    int            // ticks until another one of its row has its turn
	told    api.Thread     // what Look tells
	talk    talk           // what its Ipc still has to do
	waiting line.Line[int] // those who are Sending to it
}

type space struct {
	slots [api.Slots]pass
	pages [api.Pages]leaf
}

// pass without rights is none: the slot is empty.
type pass struct {
	thread, rights int
}

// leaf without rights is none: the page is empty.
type leaf struct {
	frame, rights int
	// nil, if it was there at first. This may point into a space, since no space is ever added, so that none moves.
	parent *leaf
}

// below tells if n is one of the numbers from 0 on that are less than bound.
func below(n, bound int) bool {
	return 0 <= n && n < bound
}

func between(n, least, most int) bool {
	return least <= n && n <= most
}

// holds tells if all of the rights asked are among those that one has.
func holds(has, asked int) bool {
	return has&asked == asked
}

// pick finds the one with the number n in a list.
func pick[T any](list []T, n int) (*T, error) {
	if !below(n, len(list)) {
		return nil, deny.Denial{Code: api.ErrArg}
	}
	return &list[n], nil
}

// caller finds the number of the thread that makes a call.
func (m *Machine) caller() (int, error) {
	n := m.Current()
	if n == nobody {
		return nobody, deny.Denial{Code: api.ErrNone}
	}
	return n, nil
}

// home finds the space of the thread that makes a call.
func (m *Machine) home() (*space, error) {
	n, err := m.caller()
	if err != nil {
		return nil, err
	}
	return &m.spaces[m.threads[n].place.Space], nil
}
