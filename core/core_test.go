package core

import (
	"errors"
	"reflect"
	"testing"

	"embassy/api"
	"embassy/deny"
)

// inRows gives a machine with one space, and threads in rows.
func inRows(t *testing.T, rows ...int) Machine {
	t.Helper()
	c := api.Config{Spaces: 1}
	for _, r := range rows {
		c.Threads = append(c.Threads, api.Place{Row: r})
	}
	m, err := New(c)
	if err != nil {
		t.Fatal(err)
	}
	return m
}

// wantDenial asks that err is a denial with this code, and was wrapped by who met it.
func wantDenial(t *testing.T, err error, code api.Errno, by string) {
	t.Helper()
	var d deny.Denial
	if !errors.As(err, &d) || d.Code != code {
		t.Errorf("%v: want a denial with %d", err, code)
	}
	var met deny.Met
	if !errors.As(err, &met) || met.By != by {
		t.Errorf("%v: want it met by %s", err, by)
	}
}

func TestClock(t *testing.T) {
	m := inRows(t, 1, 2)
	for want := range uint64(10) {
		if m.clock != want {
			t.Errorf("P3, P7: the clock is at %d, want %d", m.clock, want)
		}
		m.Tick()
		if err := m.Yield(); err != nil {
			t.Errorf("P7: Yield = %v", err)
		}
	}
}

// sleep lets the current thread receive for so many ticks.
func sleep(t *testing.T, m *Machine, wait int) {
	t.Helper()
	if err := m.Ipc(api.Message{To: noSlot, Words: []int64{9}, Item: nothing, From: whoever, Window: nothing, Wait: wait}); err != nil {
		t.Errorf("P5: Ipc = %v", err)
	}
}

func TestNoCurrentThread(t *testing.T) {
	m := inRows(t, 0, 3)
	sleep(t, &m, forever)
	if n := m.Current(); n != 0 {
		t.Errorf("P3: Current = %d, want the one of row 0", n)
	}
	sleep(t, &m, forever)
	if n := m.Current(); n != -1 {
		t.Errorf("P3: Current = %d, want -1", n)
	}
	wantDenial(t, m.Yield(), api.ErrNone, "Yield")
	if n := m.Current(); n != -1 {
		t.Errorf("P1: after a Yield that was denied Current = %d", n)
	}
	m.Tick()
	if m.clock != 1 || m.Current() != -1 {
		t.Errorf("P7: after Tick the clock is at %d, Current = %d", m.clock, m.Current())
	}
	if _, err := m.Look(0); err != nil {
		t.Errorf("P4: Look = %v", err)
	}
	if _, err := m.Space(0); err != nil {
		t.Errorf("P4: Space = %v", err)
	}
	for n, th := range m.threads {
		if th.left != api.Slice {
			t.Errorf("P7: thread %d has %d ticks left", n, th.left)
		}
	}
}

func TestNoCurrentThreadHasPagesOrPasses(t *testing.T) {
	m, err := New(api.Config{
		Spaces:  1,
		Threads: []api.Place{{}},
		Passes:  []api.Pass{{Thread: 0, Rights: 3}},
		Leaves:  []api.Leaf{{Frame: 0, Rights: 3}},
	})
	if err != nil {
		t.Fatal(err)
	}
	sleep(t, &m, 1)
	for _, n := range []int{-1, 0, 1, 6} {
		wantDenial(t, m.Ipc(api.Message{To: n, From: n}), api.ErrNone, "Ipc")
		_, err := m.Load(n, n)
		wantDenial(t, err, api.ErrNone, "Load")
		wantDenial(t, m.Store(n, n, 5), api.ErrNone, "Store")
		wantDenial(t, m.Unmap(n, true), api.ErrNone, "Unmap")
		wantDenial(t, m.Unmap(n, false), api.ErrNone, "Unmap")
		wantDenial(t, m.Derive(n, n, 1), api.ErrNone, "Derive")
		wantDenial(t, m.Derive(n, n, 0), api.ErrNone, "Derive")
		wantDenial(t, m.Drop(n), api.ErrNone, "Drop")
	}
	m.Tick()
	if n, err := m.Load(0, 0); n != 0 || err != nil {
		t.Errorf("P1: after calls that were denied Load = %d, %v", n, err)
	}
	if err := m.Derive(0, 0, 3); err != nil {
		t.Errorf("P1: after calls that were denied Derive = %v", err)
	}
}

func TestTickTakesFromTheCurrentThreadAlone(t *testing.T) {
	m := inRows(t, 1, 1, 0)
	m.Tick()
	for n, want := range []int{api.Slice - 1, api.Slice, api.Slice} {
		if got := m.threads[n].left; got != want {
			t.Errorf("P7: thread %d has %d ticks left, want %d", n, got, want)
		}
	}
}

func TestWordsComeOutAsNewMemory(t *testing.T) {
	m := inRows(t, 0)
	m.threads[0].told.Words = append(make([]int64, 0, api.MaxWords), 4, 5)
	first, _ := m.Look(0)
	all := first.Words[:cap(first.Words)]
	for i := range all {
		all[i] = -9
	}
	second, _ := m.Look(0)
	if len(second.Words) != 2 || second.Words[0] != 4 || second.Words[1] != 5 {
		t.Errorf("P2: Words = %v", second.Words)
	}
	if kept := m.threads[0].told.Words[:api.MaxWords]; kept[2] != 0 || kept[3] != 0 {
		t.Errorf("P2: the spare room of what is kept was written into: %v", kept)
	}
}

func TestWhoMeetsADenial(t *testing.T) {
	m := inRows(t, 0)
	_, err := m.Look(1)
	wantDenial(t, err, api.ErrArg, "Look")
	_, err = m.Space(1)
	wantDenial(t, err, api.ErrArg, "Space")
	_, err = m.Load(0, 0)
	wantDenial(t, err, api.ErrFault, "Load")
	wantDenial(t, m.Store(0, api.Cells, 0), api.ErrArg, "Store")
	wantDenial(t, m.Unmap(0, false), api.ErrPage, "Unmap")
	wantDenial(t, m.Derive(0, 0, 1), api.ErrPass, "Derive")
	wantDenial(t, m.Drop(0), api.ErrPass, "Drop")
	wantDenial(t, m.Drop(-1), api.ErrArg, "Drop")
	wantDenial(t, m.Ipc(api.Message{To: api.Slots}), api.ErrArg, "Ipc")
	_, err = New(api.Config{})
	wantDenial(t, err, api.ErrConfig, "New")
	_, err = New(api.Config{Spaces: 1, Threads: []api.Place{{}, {Row: 4}}})
	wantDenial(t, err, api.ErrConfig, "New")
	if want := "New: thread 1: denied with error 1"; err == nil || err.Error() != want {
		t.Errorf("New = %v, want %s", err, want)
	}
}

// What was delivered is kept where it has come to, and nowhere else.
func TestAParcelIsKeptOnce(t *testing.T) {
	m, err := New(api.Config{Spaces: 1, Threads: []api.Place{{}, {}}, Passes: []api.Pass{{Thread: 1, Rights: 3}}})
	if err != nil {
		t.Fatal(err)
	}
	if err := m.Ipc(api.Message{Words: []int64{1, 2}, Item: 4, Rights: 3, From: whoever, Window: nothing, Wait: forever}); err != nil {
		t.Errorf("P5: Ipc = %v", err)
	}
	sleep(t, &m, forever)
	if x := m.threads[0]; x.told.State != api.Receiving || !reflect.DeepEqual(x.talk.parcel, parcel{}) {
		t.Errorf("thread 0 has %+v", x)
	}
	if x := m.threads[1]; len(x.told.Words) != 2 {
		t.Errorf("thread 1 has %+v", x)
	}
	// words of a message that is not sent are not kept at all
	sleep(t, &m, forever)
	if x := m.threads[1]; x.told.State != api.Receiving || !reflect.DeepEqual(x.talk.parcel, parcel{}) {
		t.Errorf("thread 1 has %+v", x)
	}
}

// Of an Ipc that is over nothing is kept but what Look tells, and nobody waits for a thread but who is Sending to it.
func TestNothingIsKeptOfWhatIsOver(t *testing.T) {
	m, err := New(api.Config{
		Spaces:  1,
		Threads: []api.Place{{}, {}},
		Passes:  []api.Pass{{Slot: 0, Thread: 0, Rights: 3}, {Slot: 1, Thread: 1, Rights: 3}},
	})
	if err != nil {
		t.Fatal(err)
	}
	words := []int64{1, 2}
	for _, msg := range []api.Message{
		{To: 1, Words: words, Item: 4, Rights: 3, From: noOne, Window: 5, Wait: 2},
		{To: noSlot, Words: words, Item: 4, Rights: 3, From: whoever, Window: 5, Wait: 2},
		{To: 0, Words: words, Item: 4, Rights: 3, From: noOne, Window: 5, Wait: 2},
		{To: 5, Words: words, Item: 4, Rights: 3, From: noOne, Window: 5, Wait: 2},
	} {
		if err := m.Ipc(msg); err != nil {
			t.Errorf("P5: Ipc = %v", err)
		}
		m.Tick()
	}
	m.Tick()
	for n := range m.threads {
		if x := m.threads[n].talk; !reflect.DeepEqual(x, talk{}) {
			t.Errorf("thread %d still has %+v to do", n, x)
		}
		if x, ok := m.threads[n].waiting.First(); ok {
			t.Errorf("thread %d still waits for thread %d", x, n)
		}
	}
}
