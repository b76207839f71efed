package core

import (
	"embassy/api"
	"embassy/deny"
)

// What a message says where it names no slot, no thread or no number of ticks.
const (
	noSlot  = -1 // To: nothing is sent
	whoever = -1 // From: all are received from
	noOne   = -2 // From: nothing is received
	forever = -1 // Wait
)

// talk is what the Ipc of a thread still has to do. When that is over there is none of it.
type talk struct {
	to     int    // the thread that it waits for, while it is Sending
	parcel parcel // what it has not delivered yet
	from   int    // whom it receives from
	window int    // the page in which what is lent to it may come, or nothing
	wait   int    // how many ticks it waits for that
	time   uint64 // the clock at which it gives up; 0, which the clock never is after a tick: it does not
}

// Ipc lets the caller begin to send, or to receive.
func (m *Machine) Ipc(msg api.Message) error {
	n, err := m.caller()
	if err != nil {
		return deny.Met{By: "Ipc", Err: err}
	}
	if !m.isMessage(msg) {
		return deny.Met{By: "Ipc", Err: deny.Denial{Code: api.ErrArg}}
	}
	t := &m.threads[n]
	t.talk = talk{from: msg.From, window: msg.Window, wait: msg.Wait}
	if msg.To == noSlot {
		m.receive(n)
		return nil
	}
	// A clone of an empty list would still point to the caller's memory.
	words := append([]int64(nil), msg.Words...)
	t.talk.parcel = parcel{words: words, item: msg.Item, rights: msg.Rights}
	m.send(n, msg.To)
	return nil
}

func (m *Machine) isMessage(msg api.Message) bool {
	return between(msg.To, noSlot, api.Slots-1) &&
		len(msg.Words) <= api.MaxWords &&
		between(msg.Item, nothing, api.Pages-1) &&
		between(msg.Rights, 0, api.Read|api.Write) &&
		between(msg.From, noOne, len(m.threads)-1) &&
		between(msg.Window, nothing, api.Pages-1) &&
		msg.Wait >= forever &&
		(msg.To != noSlot || msg.From != noOne)
}

// send lets thread n speak to the one whom the pass in its slot is for.
func (m *Machine) send(n, slot int) {
	t := &m.threads[n]
	p := m.spaces[t.place.Space].slots[slot]
	if !holds(p.rights, api.Speak) || p.thread == n {
		m.end(n, api.ErrPass)
		return
	}
	// Whether it may lend is settled now, whatever becomes of the pass while it waits.
	if !holds(p.rights, api.Lend) {
		t.talk.parcel.item = nothing
	}
	other := &m.threads[p.thread]
	if other.told.State == api.Receiving && other.talk.hears(n) {
		m.deliver(n, p.thread)
		m.goOn(n)
		return
	}
	if t.talk.wait == 0 {
		m.end(n, api.ErrBusy)
		return
	}
	t.talk.to = p.thread
	other.waiting.ComeLast(n)
	m.pause(n, api.Sending)
}

// receive lets thread n hear the first one of those who wait for it. Each one who goes on by that waits no longer, so this ends, though it may be a whole chain.
func (m *Machine) receive(n int) {
	t := &m.threads[n]
	if from, ok := t.waiting.FirstOf(t.talk.hears); ok {
		t.waiting.Leave(from)
		m.deliver(from, n)
		m.goOn(from)
		return
	}
	if t.talk.wait == 0 {
		m.end(n, api.ErrBusy)
		return
	}
	m.pause(n, api.Receiving)
}

// goOn lets thread n, which has been heard, do the rest of its message.
func (m *Machine) goOn(n int) {
	if m.threads[n].talk.from == noOne {
		m.end(n, api.OK)
		return
	}
	m.receive(n)
}

// hears tells if thread n is one of those whom this talk receives from.
func (t *talk) hears(n int) bool {
	return t.from == whoever || t.from == n
}

// deliver gives the parcel of thread from to thread to, for which it is over by that.
func (m *Machine) deliver(from, to int) {
	sender, receiver := &m.threads[from], &m.threads[to]
	told := api.Thread{Code: api.OK, From: from, Words: sender.talk.parcel.words, Got: m.lend(sender, receiver)}
	sender.talk.parcel = parcel{}
	if receiver.told.State != api.Ready {
		m.row(to).ComeFirst(to)
	}
	m.over(to, told)
}

// end says how it went for thread n, to which nothing was delivered.
func (m *Machine) end(n int, code api.Errno) {
	if m.threads[n].told.State != api.Ready {
		m.row(n).ComeLast(n)
	}
	m.over(n, api.Thread{Code: code, From: nobody, Got: nothing})
}

// over makes thread n ready, and leaves nothing of its talk but what Look tells of it.
func (m *Machine) over(n int, told api.Thread) {
	told.State = api.Ready
	m.threads[n].told = told
	m.threads[n].talk = talk{}
}

// pause takes thread n out of its row, and gives it a time from now on, if it does not wait for ever.
func (m *Machine) pause(n, state int) {
	t := &m.threads[n]
	m.row(n).Leave(n)
	t.told.State = state
	if t.talk.wait > 0 {
		t.talk.time = m.clock + uint64(t.talk.wait)
	}
}

// giveUp lets thread n, whose time has come, wait no longer.
func (m *Machine) giveUp(n int) {
	t := &m.threads[n]
	if t.told.State == api.Sending {
		m.threads[t.talk.to].waiting.Leave(n)
	}
	m.end(n, api.ErrTimeout)
}
