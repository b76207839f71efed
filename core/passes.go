package core

import (
	"embassy/api"
	"embassy/deny"
)

// Derive makes, of the pass in the caller's slot, one with these rights in the slot to.
func (m *Machine) Derive(slot, to, rights int) error {
	if err := m.derive(slot, to, rights); err != nil {
		return deny.Met{By: "Derive", Err: err}
	}
	return nil
}

func (m *Machine) derive(slot, to, rights int) error {
	old, err := m.slot(slot)
	if err != nil {
		return err
	}
	made, err := m.slot(to)
	if err != nil {
		return err
	}
	if !between(rights, api.Speak, api.Speak|api.Lend) {
		return deny.Denial{Code: api.ErrArg}
	}
	if !holds(old.rights, rights) {
		return deny.Denial{Code: api.ErrPass}
	}
	*made = pass{thread: old.thread, rights: rights}
	return nil
}

// Drop empties the caller's slot.
func (m *Machine) Drop(slot int) error {
	p, err := m.slot(slot)
	if err != nil {
		return deny.Met{By: "Drop", Err: err}
	}
	if p.rights == 0 {
		return deny.Met{By: "Drop", Err: deny.Denial{Code: api.ErrPass}}
	}
	*p = pass{}
	return nil
}

// slot finds the slot n of the caller's space, be it empty or not.
func (m *Machine) slot(n int) (*pass, error) {
	s, err := m.home()
	if err != nil {
		return nil, err
	}
	return pick(s.slots[:], n)
}
