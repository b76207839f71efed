// Package embassy: threads that may speak to those whom they have a pass for: see DOC.md.
package embassy

import (
	"errors"

	"embassy/api"
	"embassy/core"
	"embassy/deny"
)

// Kernel is a kernel.
type Kernel struct {
	machine core.Machine
}

// New makes a kernel (P3).
func New(c api.Config) (*Kernel, api.Errno) {
	m, err := core.New(c)
	if err != nil {
		return nil, number(err)
	}
	return &Kernel{machine: m}, api.OK
}

// Current tells who runs (P3).
func (k *Kernel) Current() int { return k.machine.Current() }

// Tick lets time pass (P7).
func (k *Kernel) Tick() { k.machine.Tick() }

// Ipc sends and receives (P5).
func (k *Kernel) Ipc(m api.Message) api.Errno { return number(k.machine.Ipc(m)) }

// Yield lets others run (P7).
func (k *Kernel) Yield() api.Errno { return number(k.machine.Yield()) }

// Load reads memory (P8).
func (k *Kernel) Load(page int, cell int) (int64, api.Errno) {
	n, err := k.machine.Load(page, cell)
	return n, number(err)
}

// Store writes memory (P8).
func (k *Kernel) Store(page int, cell int, n int64) api.Errno {
	return number(k.machine.Store(page, cell, n))
}

// Unmap takes back what was lent (P9).
func (k *Kernel) Unmap(page int, own bool) api.Errno {
	return number(k.machine.Unmap(page, own))
}

// Derive makes a pass of another one (P9).
func (k *Kernel) Derive(slot int, to int, rights int) api.Errno {
	return number(k.machine.Derive(slot, to, rights))
}

// Drop throws a pass away (P9).
func (k *Kernel) Drop(slot int) api.Errno { return number(k.machine.Drop(slot)) }

// Look tells of a thread (P10).
func (k *Kernel) Look(thread int) (api.Thread, api.Errno) {
	t, err := k.machine.Look(thread)
	return t, number(err)
}

// Space tells of a space (P10).
func (k *Kernel) Space(space int) (api.Space, api.Errno) {
	s, err := k.machine.Space(space)
	return s, number(err)
}

// number tells which denial the machine met, however often it was wrapped; no error at all is OK.
func number(err error) api.Errno {
	var d deny.Denial
	if errors.As(err, &d) {
		return d.Code
	}
	return api.OK
}
