// Package core: the machine inside a kernel: its threads, rows and spaces. What it denies, it denies by the errors of package deny.
package core

import (
	"embassy/api"
	"embassy/deny"
	"embassy/line"
)

// nobody stands where a thread's number could be, nothing where a page's could.
const (
	nobody  = -1
	nothing = -1
)

// Machine is all that is kept from call to call. The zero Machine has no threads and no spaces.
type Machine struct {
	// A clock of 64 bits without a sign has room for any wait from any time on.
	clock   uint64
	threads []thread
	rows    [api.Rows]line.Line[int]
	spaces  []space
}

type thread struct {
	place api.Place
	left  int        // ticks until another one of its row has its turn
	told  api.Thread // what Look tells
}

type space struct {
	slots [api.Slots]pass
	pages [api.Pages]leaf
}

// pass without rights is none: the slot is empty.
type pass struct {
	thread, rights int
}

// leaf without rights is none: the page is empty.
type leaf struct {
	frame, rights int
}

// below tells if n is one of the numbers from 0 on that are less than bound.
func below(n, bound int) bool {
	return 0 <= n && n < bound
}

// thread finds the thread n.
func (m *Machine) thread(n int) (*thread, error) {
	if !below(n, len(m.threads)) {
		return nil, deny.Denial{Code: api.ErrArg}
	}
	return &m.threads[n], nil
}

// space finds the space n.
func (m *Machine) space(n int) (*space, error) {
	if !below(n, len(m.spaces)) {
		return nil, deny.Denial{Code: api.ErrArg}
	}
	return &m.spaces[n], nil
}

// caller finds the number of the thread that makes a call.
func (m *Machine) caller() (int, error) {
	n := m.Current()
	if n == nobody {
		return nobody, deny.Denial{Code: api.ErrNone}
	}
	return n, nil
}
