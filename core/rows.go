package core

import (
	"embassy/api"
	"embassy/deny"
)

// Current tells the number of the first thread of the highest row in which one stands, or -1.
func (m *Machine) Current() int {
	for row := api.Rows - 1; row >= 0; row-- {
		if n, ok := m.rows[row].First(); ok {
			return n
		}
	}
	return nobody
}

// Tick lets one tick pass.
func (m *Machine) Tick() {
	m.clock++
	if n := m.Current(); n != nobody {
		m.spend(n)
	}
}

// Yield lets the others of the caller's row run first.
func (m *Machine) Yield() error {
	n, err := m.caller()
	if err != nil {
		return deny.Met{By: "Yield", Err: err}
	}
	m.endTurn(n)
	return nil
}

// spend takes one tick of those that thread n has left.
func (m *Machine) spend(n int) {
	t := &m.threads[n]
	t.left--
	if t.left == 0 {
		m.endTurn(n)
	}
}

// endTurn gives thread n a whole slice for its next turn, and sends it to the end of its row.
func (m *Machine) endTurn(n int) {
	t := &m.threads[n]
	t.left = api.Slice
	m.rows[t.place.Row].ComeLast(n)
}
