package embassy_test

import (
	"testing"

	"embassy/api"
)

// Thread 2 has a message that may be: each number of it is tried at all odd numbers.
func TestEveryNumberOfAMessage(t *testing.T) {
	for _, field := range []struct {
		name        string
		least, most int
		set         func(m *api.Message, n int)
	}{
		{"To", -1, api.Slots - 1, func(m *api.Message, n int) { m.To = n }},
		{"Item", -1, api.Pages - 1, func(m *api.Message, n int) { m.Item = n }},
		{"Rights", 0, 3, func(m *api.Message, n int) { m.Rights = n }},
		{"From", -2, 2, func(m *api.Message, n int) { m.From = n }},
		{"Window", -1, api.Pages - 1, func(m *api.Message, n int) { m.Window = n }},
		{"Wait", -1, longest, func(m *api.Message, n int) { m.Wait = n }},
		{"To, if nothing is received", 0, api.Slots - 1, func(m *api.Message, n int) { m.To, m.From = n, -2 }},
		{"From, if nothing is sent", -1, 2, func(m *api.Message, n int) { m.To, m.From = -1, n }},
		{"Rights, if nothing is sent", 0, 3, func(m *api.Message, n int) { m.To, m.Rights = -1, n }},
		{"Item, if nothing is sent", -1, api.Pages - 1, func(m *api.Message, n int) { m.To, m.Item = -1, n }},
		{"Window, if nothing is received", -1, api.Pages - 1, func(m *api.Message, n int) { m.From, m.Window = -2, n }},
	} {
		for _, n := range odd {
			k := boot(t, talkers(1, 1, 3))
			want := tell(k)
			m := call(0, 1, 5)
			field.set(&m, n)
			if field.least <= n && n <= field.most {
				wantCode(t, "P5: Ipc with another "+field.name, k.Ipc(m), api.OK)
				continue
			}
			wantCode(t, "P5: Ipc with a wrong "+field.name, k.Ipc(m), api.ErrArg)
			wantSame(t, "P1", tell(k), want)
		}
	}
}

func TestFromIsAThreadThatThereIs(t *testing.T) {
	for threads := 1; threads <= api.MaxThreads; threads++ {
		for from := range api.MaxThreads + 1 {
			k := boot(t, talkers(make([]int, threads)...))
			code := api.OK
			if from >= threads {
				code = api.ErrArg
			}
			wantCode(t, "P5: Ipc", k.Ipc(receive(from)), code)
		}
	}
}

func TestHowManyWords(t *testing.T) {
	for n := range 3 * api.MaxWords {
		words := make([]int64, n)
		for i := range words {
			words[i] = int64(-7 - i)
		}
		k := boot(t, talkers(2, 1))
		ipc(t, k, 0, receive(-1))
		if n > api.MaxWords {
			wantCode(t, "P5: Ipc", k.Ipc(send(0, words...)), api.ErrArg)
			wantThreads(t, k, receiving(fresh), fresh)
			continue
		}
		ipc(t, k, 1, send(0, words...))
		wantThreads(t, k, heard(api.OK, 1, words...), idle(api.OK))
	}
	k := boot(t, talkers(0))
	wantCode(t, "P5: Ipc", k.Ipc(send(0, make([]int64, 1_000_000)...)), api.ErrArg)
	// nothing is sent: there may be words, but not too many
	wantCode(t, "P5: Ipc", k.Ipc(call(-1, -1, 1, 2, 3, 4, 5)), api.ErrArg)
	wantCode(t, "P5: Ipc", k.Ipc(call(-1, -1, 1, 2, 3, 4)), api.OK)
}

func TestNilAndEmptyWords(t *testing.T) {
	for _, words := range [][]int64{nil, {}} {
		k := boot(t, talkers(2, 1))
		ipc(t, k, 0, receive(-1))
		ipc(t, k, 1, send(0, words...))
		wantThreads(t, k, heard(api.OK, 1), idle(api.OK))
	}
}

// Slot 0 has a pass for the thread itself, slot 1 one that may only lend, slot 2 none; slot 3 has the one that may be.
func TestSendWithoutAPass(t *testing.T) {
	c := inRows(2, 1)
	c.Passes = []api.Pass{{Slot: 0, Thread: 0, Rights: 3}, {Slot: 1, Thread: 1, Rights: api.Lend}, {Slot: 3, Thread: 1, Rights: 3}}
	for slot := range 3 {
		for _, wait := range []int{0, 1, -1, longest} {
			for _, from := range []int{-2, -1, 0, 1} {
				k := boot(t, c)
				ipc(t, k, 0, during(wait, call(slot, from, 4)))
				wantThreads(t, k, idle(api.ErrPass), fresh)
				wantCurrent(t, k, 0)
			}
		}
	}
	k := boot(t, c)
	ipc(t, k, 0, send(3, 4))
	ipc(t, k, 1, receive(-1))
	wantThreads(t, k, idle(api.OK), heard(api.OK, 0, 4))
}

// Who is denied stays where it stands in its row, and has as many ticks left.
func TestNoPassKeepsThePlaceInTheRow(t *testing.T) {
	k := boot(t, talkers(1, 1, 1))
	k.Tick()
	ipc(t, k, 0, send(5, 1))
	wantThread(t, k, 0, idle(api.ErrPass))
	k.Tick()
	ipc(t, k, 0, send(5, 1))
	k.Tick()
	wantOrder(t, k, 1, 2, 0)
}

// A receiving thread is not spoken to by a pass that may only lend.
func TestLendIsNotSpeak(t *testing.T) {
	c := inRows(2, 1)
	c.Passes = []api.Pass{{Slot: 0, Thread: 0, Rights: api.Lend}}
	k := boot(t, c)
	ipc(t, k, 0, receive(-1))
	ipc(t, k, 1, send(0, 1))
	wantThreads(t, k, receiving(fresh), idle(api.ErrPass))
}

func TestPassesAreThoseOfTheSpace(t *testing.T) {
	c := api.Config{
		Spaces:  2,
		Threads: []api.Place{{Space: 0, Row: 2}, {Space: 1, Row: 1}, {Space: 1, Row: 0}},
		Passes:  []api.Pass{{Space: 0, Slot: 4, Thread: 2, Rights: 1}, {Space: 1, Slot: 4, Thread: 0, Rights: 1}},
	}
	k := boot(t, c)
	ipc(t, k, 0, receive(-1))
	ipc(t, k, 1, send(4, 7))
	wantThreads(t, k, heard(api.OK, 1, 7), idle(api.OK), fresh)
	ipc(t, k, 0, send(4, 8))
	k.Ipc(receive(-1))
	ipc(t, k, 2, receive(0))
	wantThreads(t, k, idle(api.OK), receiving(idle(api.OK)), heard(api.OK, 0, 8))
}

func TestSendToOneWhoReceives(t *testing.T) {
	for _, from := range []int{-1, 1} {
		for _, wait := range []int{0, 1, -1, longest} {
			k := boot(t, talkers(1, 1, 1))
			ipc(t, k, 0, receive(from))
			wantThreads(t, k, receiving(fresh), fresh, fresh)
			ipc(t, k, 1, during(wait, send(0, 5, 6)))
			wantThreads(t, k, heard(api.OK, 1, 5, 6), idle(api.OK), fresh)
			// who hears comes first, who is heard stays ahead of the third
			wantOrder(t, k, 0, 1, 2)
		}
	}
}

// Thread 0 is not receiving from thread 1: it is ready, sends, or receives from another one.
func TestSendToOneWhoDoesNotReceive(t *testing.T) {
	for _, x := range []struct {
		name string
		m    api.Message
		is   api.Thread
	}{
		{"ready", during(0, receive(-1)), idle(api.ErrBusy)},
		{"sends", call(2, -1, 9), sending(fresh)},
		{"receives from thread 2", receive(2), receiving(fresh)},
		{"receives from itself", receive(0), receiving(fresh)},
	} {
		for _, wait := range []int{0, 1, -1, longest} {
			k := boot(t, talkers(1, 1, 1))
			ipc(t, k, 0, x.m)
			if x.name == "ready" {
				k.Yield()
			}
			ipc(t, k, 1, during(wait, send(0, 5)))
			if wait == 0 {
				wantThreads(t, k, x.is, idle(api.ErrBusy), fresh)
				wantCurrent(t, k, 1)
				continue
			}
			wantThreads(t, k, x.is, sending(fresh), fresh)
			wantCurrent(t, k, 2)
		}
	}
}

// A row above the sender's: who hears is current at once; a row below: the sender stays current.
func TestWhoHearsComesFirstInItsOwnRow(t *testing.T) {
	k := boot(t, talkers(3, 1, 1))
	ipc(t, k, 0, receive(-1))
	ipc(t, k, 1, send(0))
	ipc(t, k, 0, receive(-1))
	wantOrder(t, k, 1, 2)
	k = boot(t, talkers(0, 1, 0, 0))
	ipc(t, k, 1, receive(-1))
	ipc(t, k, 0, receive(-1))
	ipc(t, k, 2, send(1, 1))
	ipc(t, k, 1, send(0, 2))
	ipc(t, k, 1, receive(-1))
	wantOrder(t, k, 0, 2, 3)
	wantThreads(t, k, heard(api.OK, 1, 2), receiving(idle(api.OK)), idle(api.OK), fresh)
}

// Both of To and From say something: what is received is told, though it came by another one.
func TestSendAndThenReceive(t *testing.T) {
	k := boot(t, talkers(1, 1, 1))
	ipc(t, k, 0, receive(-1))
	ipc(t, k, 1, send(2, 20))
	ipc(t, k, 2, call(0, -1, 10))
	wantThreads(t, k, heard(api.OK, 2, 10), idle(api.OK), heard(api.OK, 1, 20))
	wantOrder(t, k, 0, 2, 1)
}

func TestSendAndThenReceiveFromNobody(t *testing.T) {
	for _, x := range []struct {
		wait int
		is   api.Thread
	}{
		{0, idle(api.ErrBusy)}, {1, receiving(fresh)}, {-1, receiving(fresh)},
	} {
		k := boot(t, talkers(1, 1, 1))
		ipc(t, k, 0, receive(-1))
		ipc(t, k, 1, send(2, 20))
		ipc(t, k, 2, during(x.wait, call(0, 0, 10)))
		wantThreads(t, k, heard(api.OK, 2, 10), sending(fresh), x.is)
		if x.wait == 0 {
			wantOrder(t, k, 0, 2)
		} else {
			wantOrder(t, k, 0)
		}
	}
}

// A pass that is thrown away while its thread waits is not asked for again.
func TestAPassIsAskedForOnce(t *testing.T) {
	c := talkers(1, 1, 1)
	k := boot(t, c)
	ipc(t, k, 0, send(2, 5))
	wantCode(t, "P9: Drop", k.Drop(2), api.OK)
	wantCode(t, "P9: Derive", k.Derive(1, 2, 1), api.OK)
	k.Yield()
	ipc(t, k, 2, receive(-1))
	wantThreads(t, k, idle(api.OK), fresh, heard(api.OK, 0, 5))
}
