package embassy_test

import (
	"testing"

	"embassy/api"
	"embassy/embassy"
)

// Thread 0 waits for thread 1, which is ready, or for whoever speaks.
func TestTheTimeComesUp(t *testing.T) {
	for _, before := range []int{0, 1, 5} {
		for wait := 1; wait <= 5; wait++ {
			for _, x := range []struct {
				m  api.Message
				is api.Thread
			}{
				{send(1, 5), sending(fresh)}, {call(1, -1, 5), sending(fresh)},
				{receive(-1), receiving(fresh)}, {receive(1), receiving(fresh)}, {receive(0), receiving(fresh)},
			} {
				k := boot(t, talkers(1, 0))
				ticks(k, before)
				ipc(t, k, 0, during(wait, x.m))
				for range wait {
					wantThreads(t, k, x.is, fresh)
					wantCurrent(t, k, 1)
					k.Tick()
				}
				wantThreads(t, k, idle(api.ErrTimeout), fresh)
				wantCurrent(t, k, 0)
				ticks(k, 10)
				wantThreads(t, k, idle(api.ErrTimeout), fresh)
			}
		}
	}
}

func TestNoTimeComesUp(t *testing.T) {
	for _, wait := range []int{-1, longest, longest - 1, 1<<32 + 2, 1<<31 + 2} {
		for _, x := range []struct {
			m  api.Message
			is api.Thread
		}{
			{send(1, 5), sending(fresh)}, {receive(-1), receiving(fresh)},
		} {
			k := boot(t, talkers(1, 0))
			ticks(k, 100)
			ipc(t, k, 0, during(wait, x.m))
			ticks(k, 1000)
			wantThreads(t, k, x.is, fresh)
		}
	}
}

// Who is heard in time has no time any more; when it receives, it has it whole again.
func TestTheTimeBeginsAnewWhenOneGoesOn(t *testing.T) {
	for spent := range 3 {
		k := boot(t, talkers(1, 0))
		ipc(t, k, 0, during(3, call(1, 1, 5)))
		ticks(k, spent)
		ipc(t, k, 1, receive(-1))
		for range 3 {
			wantThread(t, k, 0, receiving(fresh))
			k.Tick()
		}
		wantThreads(t, k, idle(api.ErrTimeout), heard(api.OK, 0, 5))
	}
}

func TestWhoIsOverHasNoTime(t *testing.T) {
	k := boot(t, talkers(1, 1))
	ipc(t, k, 0, during(2, receive(-1)))
	ipc(t, k, 1, during(2, send(0, 5)))
	ipc(t, k, 0, receive(-1))
	ticks(k, 5)
	wantThreads(t, k, receiving(heard(api.OK, 1, 5)), idle(api.OK))
	k = boot(t, talkers(1, 1))
	ipc(t, k, 0, during(2, send(1, 5)))
	ipc(t, k, 1, during(2, receive(-1)))
	ipc(t, k, 1, receive(-1))
	ipc(t, k, 0, receive(-1))
	ticks(k, 5)
	wantThreads(t, k, receiving(idle(api.OK)), receiving(heard(api.OK, 0, 5)))
}

// Who has given up is not heard, and does not hear.
func TestWhoHasGivenUpWaitsForNobody(t *testing.T) {
	k := boot(t, talkers(2, 1))
	ipc(t, k, 0, during(1, send(1, 5)))
	k.Tick()
	wantThread(t, k, 0, idle(api.ErrTimeout))
	ipc(t, k, 0, receive(-1))
	ipc(t, k, 1, during(0, receive(-1)))
	wantThreads(t, k, receiving(idle(api.ErrTimeout)), idle(api.ErrBusy))
	k = boot(t, talkers(2, 1, 0))
	ipc(t, k, 0, during(1, receive(-1)))
	k.Tick()
	ipc(t, k, 0, send(2))
	ipc(t, k, 1, during(0, send(0, 5)))
	wantThreads(t, k, sending(idle(api.ErrTimeout)), idle(api.ErrBusy), fresh)
}

// Of those who wait for thread 0 some give up; the others are heard in their order.
func TestATimeComesUpWhileOthersWait(t *testing.T) {
	for gone := 1; gone <= 4; gone++ {
		k := boot(t, talkers(1, 2, 2, 2, 2))
		for n := 1; n <= 4; n++ {
			wait := -1
			if n == gone {
				wait = 2
			}
			ipc(t, k, n, during(wait, send(0, int64(n))))
		}
		ticks(k, 2)
		ipc(t, k, gone, receive(gone))
		wantThread(t, k, gone, receiving(idle(api.ErrTimeout)))
		for n := 1; n <= 4; n++ {
			if n == gone {
				continue
			}
			wantThread(t, k, n, sending(fresh))
			ipc(t, k, 0, receive(-1))
			wantThread(t, k, 0, heard(api.OK, n, int64(n)))
			ipc(t, k, n, receive(n))
		}
		ipc(t, k, 0, during(0, receive(-1)))
		wantThread(t, k, 0, idle(api.ErrBusy))
	}
}

// Who has given up may wait for the same one again, as the last one.
func TestWhoHasGivenUpComesLastAgain(t *testing.T) {
	k := boot(t, talkers(0, 1, 1))
	ipc(t, k, 1, during(1, send(0, 1)))
	ipc(t, k, 2, send(0, 2))
	k.Tick()
	ipc(t, k, 1, send(0, 11))
	ipc(t, k, 0, receive(-1))
	wantThreads(t, k, heard(api.OK, 2, 2), sending(idle(api.ErrTimeout)), idle(api.OK))
	ipc(t, k, 2, receive(2))
	ipc(t, k, 0, receive(-1))
	wantThreads(t, k, heard(api.OK, 1, 11), idle(api.OK), receiving(idle(api.OK)))
}

// All times come up with one tick: from thread 0 on they come last, whoever began to wait first; who has spent its slice by that tick comes last ahead of them.
func TestTimesThatComeUpTogether(t *testing.T) {
	k := boot(t, talkers(1, 1, 1, 1, 1))
	k.Yield()
	k.Yield()
	ipc(t, k, 2, during(3, receive(-1)))
	k.Tick()
	k.Yield()
	ipc(t, k, 4, during(2, send(3)))
	ipc(t, k, 0, during(2, send(3)))
	wantCurrent(t, k, 1)
	ticks(k, 2)
	wantThreads(t, k, idle(api.ErrTimeout), fresh, idle(api.ErrTimeout), fresh, idle(api.ErrTimeout))
	wantOrder(t, k, 1, 3, 0, 2, 4)

	k = boot(t, talkers(1, 1, 1))
	ipc(t, k, 0, during(3, receive(-1)))
	ticks(k, 3)
	wantThreads(t, k, idle(api.ErrTimeout), fresh, fresh)
	wantOrder(t, k, 2, 1, 0)
}

// The tick is spent by who was current ahead of it, not by one whose time comes up in a higher row.
func TestWhoseTickItWas(t *testing.T) {
	k := boot(t, talkers(2, 1, 1))
	ipc(t, k, 0, during(3, receive(-1)))
	ticks(k, 3)
	wantCurrent(t, k, 0)
	ticks(k, 3)
	ipc(t, k, 0, receive(-1))
	wantOrder(t, k, 2, 1)
}

// To wait changes nothing of the ticks that one has left: thread 0 has one left ahead of that, and behind it.
func TestTicksLeftAreKept(t *testing.T) {
	for _, x := range []struct {
		name string
		do   func(k *embassy.Kernel)
	}{
		{"receives", func(k *embassy.Kernel) { ipc(t, k, 0, receive(-1)); ipc(t, k, 1, send(0)) }},
		{"sends", func(k *embassy.Kernel) { ipc(t, k, 0, send(1)); ipc(t, k, 1, receive(-1)); k.Yield() }},
		{"gives up", func(k *embassy.Kernel) { ipc(t, k, 0, during(1, receive(-1))); k.Tick(); k.Yield() }},
		{"is denied", func(k *embassy.Kernel) { ipc(t, k, 0, send(5)) }},
		{"finds nobody", func(k *embassy.Kernel) { ipc(t, k, 0, during(0, receive(-1))) }},
	} {
		k := boot(t, talkers(1, 1))
		ticks(k, 2)
		x.do(k)
		for _, want := range []int{0, 1, 1, 1, 0, 0, 0, 1} {
			if n := k.Current(); n != want {
				t.Errorf("P7: %s: Current = %d, want %d", x.name, n, want)
			}
			k.Tick()
		}
	}
}
