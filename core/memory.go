package core

import (
	"embassy/api"
	"embassy/deny"
)

// frame is what leaves, of whichever space, show.
type frame [api.Cells]int64

// Load tells the number in a cell of the caller's page.
func (m *Machine) Load(page, cell int) (int64, error) {
	at, err := m.cell(page, cell, api.Read)
	if err != nil {
		return 0, deny.Met{By: "Load", Err: err}
	}
	return *at, nil
}

// Store puts n into a cell of the caller's page.
func (m *Machine) Store(page, cell int, n int64) error {
	at, err := m.cell(page, cell, api.Write)
	if err != nil {
		return deny.Met{By: "Store", Err: err}
	}
	*at = n
	return nil
}

// Unmap takes back what was lent of the caller's page; with own, the page is empty then.
func (m *Machine) Unmap(page int, own bool) error {
	l, err := m.leaf(page)
	if err != nil {
		return deny.Met{By: "Unmap", Err: err}
	}
	m.takeBack(l)
	if own {
		*l = leaf{}
	}
	return nil
}

// cell finds a cell of the frame in the caller's page, if the leaf there gives this right.
func (m *Machine) cell(page, cell, right int) (*int64, error) {
	l, err := m.page(page)
	if err != nil {
		return nil, err
	}
	if !below(cell, api.Cells) {
		return nil, deny.Denial{Code: api.ErrArg}
	}
	if !holds(l.rights, right) {
		return nil, deny.Denial{Code: api.ErrFault}
	}
	return &m.frames[l.frame][cell], nil
}

// leaf finds the leaf in the caller's page.
func (m *Machine) leaf(page int) (*leaf, error) {
	l, err := m.page(page)
	if err != nil {
		return nil, err
	}
	if l.rights == 0 {
		return nil, deny.Denial{Code: api.ErrPage}
	}
	return l, nil
}

// page finds the page n of the caller's space, be it empty or not.
func (m *Machine) page(n int) (*leaf, error) {
	s, err := m.home()
	if err != nil {
		return nil, err
	}
	return pick(s.pages[:], n)
}
