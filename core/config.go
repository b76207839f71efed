package core

import (
	"strconv"

	"embassy/api"
	"embassy/deny"
)

// New makes the machine that c describes.
func New(c api.Config) (Machine, error) {
	var m Machine
	if err := m.build(c); err != nil {
		return Machine{}, deny.Met{By: "New", Err: err}
	}
	return m, nil
}

// build goes from what others lean on to what leans on it: passes are for threads, and all are in spaces.
func (m *Machine) build(c api.Config) error {
	if err := m.openSpaces(c.Spaces); err != nil {
		return err
	}
	if !between(len(c.Threads), 1, api.MaxThreads) {
		return noConfig()
	}
	if err := each("thread", c.Threads, m.addThread); err != nil {
		return err
	}
	if err := each("pass", c.Passes, m.addPass); err != nil {
		return err
	}
	return each("leaf", c.Leaves, m.addLeaf)
}

func (m *Machine) openSpaces(count int) error {
	if !between(count, 1, api.MaxSpaces) {
		return noConfig()
	}
	m.spaces = make([]space, count)
	return nil
}

func (m *Machine) addThread(p api.Place) error {
	if !below(p.Space, len(m.spaces)) || !below(p.Row, api.Rows) {
		return noConfig()
	}
	m.rows[p.Row].ComeLast(len(m.threads))
	m.threads = append(m.threads, thread{
		place: p,
		left:  api.Slice,
		told:  api.Thread{State: api.Ready, Code: api.OK, From: nobody, Got: nothing},
	})
	return nil
}

func (m *Machine) addPass(p api.Pass) error {
	if !below(p.Space, len(m.spaces)) || !below(p.Slot, api.Slots) ||
		!below(p.Thread, len(m.threads)) || !between(p.Rights, api.Speak, api.Speak|api.Lend) {
		return noConfig()
	}
	slot := &m.spaces[p.Space].slots[p.Slot]
	if slot.rights != 0 {
		return noConfig()
	}
	*slot = pass{thread: p.Thread, rights: p.Rights}
	return nil
}

func (m *Machine) addLeaf(l api.Leaf) error {
	if !below(l.Space, len(m.spaces)) || !below(l.Page, api.Pages) ||
		!below(l.Frame, api.Frames) || !between(l.Rights, api.Read, api.Read|api.Write) {
		return noConfig()
	}
	page := &m.spaces[l.Space].pages[l.Page]
	if page.rights != 0 {
		return noConfig()
	}
	*page = leaf{frame: l.Frame, rights: l.Rights}
	return nil
}

// each adds one of the list after another, and tells at which one it was denied.
func each[T any](kind string, list []T, add func(T) error) error {
	for n, x := range list {
		if err := add(x); err != nil {
			return deny.Met{By: kind + " " + strconv.Itoa(n), Err: err}
		}
	}
	return nil
}

func noConfig() error {
	return deny.Denial{Code: api.ErrConfig}
}
