package embassy_test

import (
	"testing"

	"embassy/api"
	"embassy/embassy"
)

// asleep gives a kernel in which nobody is ready: thread 0, and thread 1 with its time, receive, thread 2 sends.
func asleep(t *testing.T) *embassy.Kernel {
	t.Helper()
	c := talkers(1, 1, 1)
	c.Leaves = []api.Leaf{{Page: 0, Frame: 0, Rights: 3}}
	k := boot(t, c)
	ipc(t, k, 0, receive(1))
	ipc(t, k, 1, during(4, receive(-1)))
	ipc(t, k, 2, send(0, 3))
	return k
}

func TestNobodyIsReady(t *testing.T) {
	k := asleep(t)
	wantCurrent(t, k, -1)
	want := tell(k)
	for _, n := range odd {
		wantNobodysCalls(t, k, n)
	}
	wantSame(t, "P1, P4", tell(k), want)
	wantThreads(t, k, receiving(fresh), receiving(fresh), sending(fresh))
}

// wantNobodysCalls asks for ErrNone, which is named ahead of all other errors, at this number.
func wantNobodysCalls(t *testing.T, k *embassy.Kernel, n int) {
	t.Helper()
	number, e := k.Load(n, n)
	wantCode(t, "P4: Load", e, api.ErrNone)
	if number != 0 {
		t.Errorf("P1: Load = %d", number)
	}
	wantCode(t, "P4: Store", k.Store(n, n, 5), api.ErrNone)
	wantCode(t, "P4: Unmap", k.Unmap(n, n != 0), api.ErrNone)
	wantCode(t, "P4: Derive", k.Derive(n, n, n), api.ErrNone)
	wantCode(t, "P4: Drop", k.Drop(n), api.ErrNone)
	wantCode(t, "P4: Yield", k.Yield(), api.ErrNone)
	wantCode(t, "P4: Ipc", k.Ipc(during(n, call(n, n))), api.ErrNone)
	wantCode(t, "P4: Ipc", k.Ipc(call(-1, -2, 1, 2, 3, 4, 5)), api.ErrNone)
}

// Ticks go on, and wake the one who has a time; it may speak to the others then.
func TestTicksGoOnWithoutACurrentThread(t *testing.T) {
	k := asleep(t)
	for range 4 {
		wantCurrent(t, k, -1)
		wantThread(t, k, 1, receiving(fresh))
		k.Tick()
	}
	wantThread(t, k, 1, idle(api.ErrTimeout))
	ipc(t, k, 1, send(0, 8))
	wantThreads(t, k, heard(api.OK, 1, 8), idle(api.OK), sending(fresh))
	ipc(t, k, 0, receive(2))
	wantThreads(t, k, heard(api.OK, 2, 3), idle(api.OK), idle(api.OK))
	wantOrder(t, k, 0, 1, 2)
}

// A tick that nobody spends is nobody's: all have as many left as before.
func TestNobodySpendsATick(t *testing.T) {
	k := boot(t, talkers(1, 1))
	k.Tick()
	ipc(t, k, 0, during(5, receive(-1)))
	ipc(t, k, 1, during(5, receive(-1)))
	ticks(k, 5)
	for _, want := range []int{0, 0, 1, 1, 1, 0, 0, 0, 1} {
		wantCurrent(t, k, want)
		k.Tick()
	}
}

// One thread alone can have itself asleep for good.
func TestOneAloneFallsAsleep(t *testing.T) {
	for _, from := range []int{-1, 0} {
		k := boot(t, inRows(2))
		ipc(t, k, 0, receive(from))
		wantCurrent(t, k, -1)
		ticks(k, 1000)
		wantCurrent(t, k, -1)
		wantThreads(t, k, receiving(fresh))
	}
}
