package core

import (
	"embassy/api"
	"embassy/deny"
	"embassy/line"
)

// Current tells the number of the first thread of the highest row in which one stands, or -1.
func (m *Machine) Current() int {
	for row := api.Rows - 1; row >= 0; row-- {
		if n, ok := m.rows[row].First(); ok {
			return n
		}
	}
	return nobody
}

// Tick lets one tick pass.
func (m *Machine) Tick() {
	m.clock++
	if n := m.Current(); n != nobody {
		m.spend(n)
	}
	for n := range m.threads {
		if m.threads[n].talk.time == m.clock {
			m.giveUp(n)
		}
	}
}

// Yield lets the others of the caller's row run first.
func (m *Machine) Yield() error {
	n, err := m.caller()
	if err != nil {
		return deny.Met{By: "Yield", Err: err}
	}
	m.endTurn(n)
	return nil
}

// spend takes one tick of those that thread n has left.
func (m *Machine) spend(n int) {
	t := &m.threads[n]
	t.left--
	if t.left == 0 {
		m.endTurn(n)
	}
}

// endTurn gives thread n a whole slice for its next turn, and sends it to the end of its row.
func (m *Machine) endTurn(n int) {
	m.threads[n].left = api.Slice
	m.row(n).ComeLast(n)
}

// row finds the row of thread n.
func (m *Machine) row(n int) *line.Line[int] {
	return &m.rows[m.threads[n].place.Row]
}
