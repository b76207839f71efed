package embassy_test

import (
	"testing"

	"embassy/api"
	"embassy/embassy"
)

// crowd lets the threads 1 to 4 send to thread 0, in this order, each with ten times its number.
func crowd(t *testing.T, order ...int) *embassy.Kernel {
	t.Helper()
	k := boot(t, talkers(1, 2, 2, 2, 2))
	for _, n := range order {
		for k.Current() != n {
			k.Yield()
		}
		ipc(t, k, n, send(0, int64(10*n)))
	}
	wantCurrent(t, k, 0)
	return k
}

func TestThoseWhoWaitAreHeardInTheirOrder(t *testing.T) {
	for _, order := range [][]int{{1, 2, 3, 4}, {4, 3, 2, 1}, {2, 4, 1, 3}} {
		k := crowd(t, order...)
		for _, n := range order {
			for k.Current() != 0 { // those who were heard stand in a higher row
				ipc(t, k, k.Current(), receive(-1))
			}
			ipc(t, k, 0, receive(-1))
			wantThread(t, k, 0, heard(api.OK, n, int64(10*n)))
			wantThread(t, k, n, idle(api.OK))
		}
	}
}

// One is asked for among those who wait; the others keep their order.
func TestOneIsAskedForAmongThoseWhoWait(t *testing.T) {
	order := []int{3, 1, 4, 2}
	for at, asked := range order {
		k := crowd(t, order...)
		ipc(t, k, 0, receive(asked))
		wantThread(t, k, 0, heard(api.OK, asked, int64(10*asked)))
		wantThread(t, k, asked, idle(api.OK))
		ipc(t, k, asked, receive(asked))
		for i, n := range order {
			if i == at {
				continue
			}
			wantThread(t, k, n, sending(fresh))
			ipc(t, k, 0, receive(-1))
			wantThread(t, k, 0, heard(api.OK, n, int64(10*n)))
			ipc(t, k, n, receive(n))
		}
		ipc(t, k, 0, during(0, receive(-1)))
		wantThread(t, k, 0, idle(api.ErrBusy))
	}
}

func TestOneIsAskedForWhoDoesNotWait(t *testing.T) {
	for _, from := range []int{0, 2} {
		k := boot(t, talkers(1, 1, 1))
		k.Yield()
		ipc(t, k, 1, send(0, 1))
		k.Yield()
		ipc(t, k, 0, during(0, receive(from)))
		wantThreads(t, k, idle(api.ErrBusy), sending(fresh), fresh)
		wantOrder(t, k, 0, 2)
		ipc(t, k, 0, receive(from))
		wantThreads(t, k, receiving(idle(api.ErrBusy)), sending(fresh), fresh)
		wantOrder(t, k, 2)
	}
}

// Who receives stays where it stands; who is heard comes last.
func TestWhoIsHeardComesLast(t *testing.T) {
	k := boot(t, talkers(1, 1, 1))
	ipc(t, k, 0, send(1, 5, 6))
	wantThreads(t, k, sending(fresh), fresh, fresh)
	ipc(t, k, 1, receive(-1))
	wantThreads(t, k, idle(api.OK), heard(api.OK, 0, 5, 6), fresh)
	wantOrder(t, k, 1, 2, 0)
}

func TestNobodyToReceiveFrom(t *testing.T) {
	k := boot(t, talkers(1, 1))
	k.Tick()
	ipc(t, k, 0, during(0, receive(-1)))
	wantThreads(t, k, idle(api.ErrBusy), fresh)
	// it stays ahead of thread 1, and has two ticks left
	k.Tick()
	wantCurrent(t, k, 0)
	k.Tick()
	wantOrder(t, k, 1, 0)
	for _, wait := range []int{1, -1, longest} {
		k := boot(t, talkers(1, 1))
		ipc(t, k, 0, during(wait, receive(-1)))
		wantThreads(t, k, receiving(fresh), fresh)
		wantOrder(t, k, 1)
	}
}

// What an Ipc that is over has told goes when the next one is over, not when it begins.
func TestOnlyTheLastIpcIsTold(t *testing.T) {
	k := boot(t, talkers(2, 1))
	ipc(t, k, 0, receive(-1))
	ipc(t, k, 1, send(0, 7, 8))
	ipc(t, k, 0, receive(1))
	wantThread(t, k, 0, receiving(heard(api.OK, 1, 7, 8)))
	ipc(t, k, 1, send(0))
	wantThread(t, k, 0, heard(api.OK, 1))
	ipc(t, k, 0, send(1))
	wantThread(t, k, 0, sending(heard(api.OK, 1)))
	ipc(t, k, 1, receive(-1))
	wantThreads(t, k, idle(api.OK), heard(api.OK, 0))
	for _, x := range []struct {
		m    api.Message
		code api.Errno
	}{
		{during(0, send(1)), api.ErrBusy}, {send(0), api.ErrPass}, {during(0, receive(-1)), api.ErrBusy},
	} {
		ipc(t, k, 0, receive(-1))
		ipc(t, k, 1, send(0, 3))
		ipc(t, k, 0, x.m)
		wantThread(t, k, 0, idle(x.code))
	}
}

// Thread 0 asks thread 2, which answers and waits for the next one.
func TestAskAndAnswer(t *testing.T) {
	k := boot(t, talkers(1, 1, 1))
	ipc(t, k, 0, call(2, 2, 7))
	ipc(t, k, 1, call(2, 2, 17))
	ipc(t, k, 2, receive(-1))
	wantThreads(t, k, receiving(fresh), sending(fresh), heard(api.OK, 0, 7))
	ipc(t, k, 2, call(0, -1, 8))
	wantThreads(t, k, heard(api.OK, 2, 8), receiving(fresh), heard(api.OK, 1, 17))
	wantOrder(t, k, 0, 2)
	ipc(t, k, 0, call(2, 2, 9))
	wantThreads(t, k, sending(heard(api.OK, 2, 8)), receiving(fresh), heard(api.OK, 1, 17))
	ipc(t, k, 2, call(1, 1, 18))
	wantThreads(t, k, sending(heard(api.OK, 2, 8)), heard(api.OK, 2, 18), receiving(heard(api.OK, 1, 17)))
}

// Each one is heard, hears the next one by that, and comes first in its row; the last one receives.
func TestAWholeChainGoesOn(t *testing.T) {
	last := api.MaxThreads - 1
	k := boot(t, talkers(make([]int, api.MaxThreads)...))
	for n := range last {
		ipc(t, k, n, call(n+1, -1, int64(n)))
	}
	ipc(t, k, last, receive(-1))
	wantThread(t, k, 0, receiving(fresh))
	for n := 1; n <= last; n++ {
		wantThread(t, k, n, heard(api.OK, n-1, int64(n-1)))
	}
	wantOrder(t, k, 1, 2, 3, 4, 5)
}

// The chain may begin with one who sends, and end with one who has nothing more to do, and comes last.
func TestAChainThatEnds(t *testing.T) {
	k := boot(t, talkers(1, 1, 1, 1, 1))
	ipc(t, k, 0, receive(-1))
	ipc(t, k, 1, send(2, 11))
	ipc(t, k, 2, call(3, 1, 12))
	ipc(t, k, 3, call(0, 2, 13))
	wantThreads(t, k, heard(api.OK, 3, 13), idle(api.OK), heard(api.OK, 1, 11), heard(api.OK, 2, 12), fresh)
	// 0 came first, ahead of 3; 2 came ahead of it; 1 came last
	wantOrder(t, k, 2, 0, 3, 4, 1)
}

// Who goes on to receive, from one who does not wait for it, waits for that one alone.
func TestAChainThatStops(t *testing.T) {
	k := boot(t, talkers(1, 1, 1, 1))
	ipc(t, k, 0, send(1, 10))
	ipc(t, k, 1, call(2, 3, 11))
	ipc(t, k, 2, receive(-1))
	wantThreads(t, k, sending(fresh), receiving(fresh), heard(api.OK, 1, 11), fresh)
	k.Yield()
	ipc(t, k, 3, send(1, 13))
	wantThreads(t, k, sending(fresh), heard(api.OK, 3, 13), heard(api.OK, 1, 11), idle(api.OK))
	wantOrder(t, k, 1, 3, 2)
}

// Those who send to each other are never heard: none of them receives yet.
func TestARingOfSendersWaits(t *testing.T) {
	for size := 2; size <= api.MaxThreads; size++ {
		k := boot(t, talkers(make([]int, size)...))
		for n := range size {
			ipc(t, k, n, call((n+1)%size, -1, int64(n)))
		}
		wantCurrent(t, k, -1)
		ticks(k, 10)
		for n := range size {
			wantThread(t, k, n, sending(fresh))
		}
	}
}

// If one of a ring gives up, it may receive, and all of the others are heard by that.
func TestARingThatOneLeaves(t *testing.T) {
	k := boot(t, talkers(1, 1, 1))
	ipc(t, k, 0, call(1, -1, 10))
	ipc(t, k, 1, call(2, -1, 11))
	ipc(t, k, 2, during(1, call(0, -1, 12)))
	k.Tick()
	ipc(t, k, 2, receive(-1))
	wantThreads(t, k, receiving(fresh), heard(api.OK, 0, 10), heard(api.OK, 1, 11))
	wantOrder(t, k, 1, 2)
}
