package embassy_test

import (
	"slices"
	"testing"

	"embassy/api"
)

// The document's example, whole.
func TestExample(t *testing.T) {
	k := boot(t, api.Config{
		Spaces:  2,
		Threads: []api.Place{{Space: 0, Row: 1}, {Space: 1, Row: 1}},
		Passes:  []api.Pass{{Space: 0, Slot: 0, Thread: 1, Rights: 3}, {Space: 1, Slot: 0, Thread: 0, Rights: 1}},
		Leaves:  []api.Leaf{leaf(0, 2, 3, 3)},
	})
	wantCurrent(t, k, 0)
	wantStore(t, k, 2, 1, 77, api.OK)
	wantLoad(t, k, 2, 1, 77, api.OK)
	wantLoad(t, k, 3, 1, 0, api.ErrFault)
	ipc(t, k, 0, lending(2, 1, call(0, -1, 5, 6)))
	wantThreads(t, k, sending(fresh), fresh)
	wantLeaves(t, k, leaf(0, 2, 3, 3))
	ipc(t, k, 1, into(4, during(0, receive(-1))))
	wantThreads(t, k, receiving(fresh), got(4, heard(api.OK, 0, 5, 6)))
	wantLeaves(t, k, leaf(0, 2, 3, 3), leaf(1, 4, 3, 1))
	wantLoad(t, k, 4, 1, 77, api.OK)
	wantStore(t, k, 4, 1, 8, api.ErrFault)
	ipc(t, k, 1, during(2, call(0, 0, 9)))
	wantThreads(t, k, heard(api.OK, 1, 9), receiving(got(4, heard(api.OK, 0, 5, 6))))
	wantCurrent(t, k, 0)
	k.Tick()
	wantThread(t, k, 1, receiving(got(4, heard(api.OK, 0, 5, 6))))
	k.Tick()
	wantThreads(t, k, heard(api.OK, 1, 9), idle(api.ErrTimeout))
	wantCode(t, "P9: Unmap", k.Unmap(2, false), api.OK)
	wantLeaves(t, k, leaf(0, 2, 3, 3))
}

// Of a leaf's rights and those of the message it is the ones in both that are lent: a leaf with both rights, one with Read and one with Write, at every number of Rights.
func TestRightsThatAreInBoth(t *testing.T) {
	for item, both := range [][]int{{0, 1, 2, 3}, {0, 1, 0, 1}, {0, 0, 2, 2}} {
		for rights, want := range both {
			for _, ahead := range []bool{false, true} {
				k := boot(t, lenders())
				lendInOrder(t, k, ahead, page{0, item}, rights, page{2, 0}, want != 0)
				if want == 0 {
					wantLeaves(t, k, atFirst()...)
				} else {
					wantLeaves(t, k, atFirst(leaf(2, 0, 5+item, want))...)
				}
			}
		}
	}
}

func TestEveryPageIntoEveryWindow(t *testing.T) {
	for item := range api.Pages {
		for window := range api.Pages {
			c := lenders()
			c.Leaves = nil
			for n := range api.Pages {
				c.Leaves = append(c.Leaves, leaf(0, n, 7-n, 3))
			}
			k := boot(t, c)
			lend(t, k, page{0, item}, 3, page{1, window}, true)
			wantLeaves(t, k, append(c.Leaves, leaf(1, window, 7-item, 3))...)
		}
	}
}

func TestLentWithinOneSpace(t *testing.T) {
	k := boot(t, lenders())
	lend(t, k, page{0, 0}, 1, page{3, 4}, true)
	wantLeaves(t, k, atFirst(leaf(0, 4, 5, 1))...)
	lend(t, k, page{3, 4}, 3, page{0, 5}, true)
	wantLeaves(t, k, atFirst(leaf(0, 4, 5, 1), leaf(0, 5, 5, 1))...)
	wantCode(t, "P9: Unmap", k.Unmap(4, false), api.OK)
	wantLeaves(t, k, atFirst(leaf(0, 4, 5, 1))...)
	wantCode(t, "P9: Unmap", k.Unmap(0, true), api.OK)
	wantLeaves(t, k, atFirst()[1:]...)
}

// Where one of Item, Window and Lend is missing nothing is lent, and what is in the window stays, with its children.
func TestNothingIsLent(t *testing.T) {
	for _, x := range []struct {
		name    string
		send    api.Message
		receive api.Message
	}{
		{"no Item", lending(-1, 3, send(1, 7)), into(4, receive(-1))},
		{"no Window", lending(1, 3, send(1, 7)), receive(-1)},
		{"neither", send(1, 7), receive(-1)},
		{"no Lend", lending(1, 3, send(4, 7)), into(4, receive(-1))},
	} {
		for _, ahead := range []bool{false, true} {
			k := lentOn(t)
			want := allLeaves(k)
			if ahead {
				turn(t, k, 1)
				ipc(t, k, 1, x.receive)
			}
			turn(t, k, 0)
			ipc(t, k, 0, x.send)
			if !ahead {
				turn(t, k, 1)
				ipc(t, k, 1, x.receive)
			}
			wantThread(t, k, 1, heard(api.OK, 0, 7))
			wantLeaves(t, k, want...)
			if t.Failed() {
				t.Fatal(x.name)
			}
		}
	}
}

// The pass had Lend when Ipc was called: what thread 3 makes of it then is all one.
func TestThePassHadLend(t *testing.T) {
	for _, then := range [][3]int{{1, 1, api.Speak}, {1, 1, api.Lend}, {2, 1, 3}, {4, 1, 1}} {
		for _, drop := range []bool{false, true} {
			k := boot(t, lenders())
			ipc(t, k, 0, lending(0, 3, send(1, 7)))
			turn(t, k, 3)
			wantCode(t, "P9: Derive", k.Derive(then[0], then[1], then[2]), api.OK)
			if drop {
				wantCode(t, "P9: Drop", k.Drop(1), api.OK)
			}
			turn(t, k, 1)
			ipc(t, k, 1, into(4, receive(-1)))
			wantThread(t, k, 1, got(4, heard(api.OK, 0, 7)))
			wantLeaves(t, k, atFirst(leaf(1, 4, 5, 3))...)
		}
	}
}

// The pass had no Lend then: that it has it later is too late.
func TestThePassHasLendTooLate(t *testing.T) {
	k := boot(t, lenders())
	ipc(t, k, 0, lending(0, 3, send(4, 7)))
	turn(t, k, 3)
	wantCode(t, "P9: Derive", k.Derive(1, 4, 3), api.OK)
	turn(t, k, 1)
	ipc(t, k, 1, into(4, receive(-1)))
	wantThread(t, k, 1, heard(api.OK, 0, 7))
	wantLeaves(t, k, atFirst()...)
	// the next one is in time
	turn(t, k, 0)
	ipc(t, k, 0, lending(0, 3, send(4, 7)))
	turn(t, k, 1)
	ipc(t, k, 1, into(4, receive(-1)))
	wantThread(t, k, 1, got(4, heard(api.OK, 0, 7)))
}

// The page is empty when the message is delivered, or has something other than when it was sent.
func TestTheItemIsWhatIsThereAtLast(t *testing.T) {
	k := boot(t, lenders())
	ipc(t, k, 0, lending(0, 3, send(1, 7)))
	turn(t, k, 3)
	wantCode(t, "P9: Unmap", k.Unmap(0, true), api.OK)
	turn(t, k, 1)
	ipc(t, k, 1, into(4, receive(-1)))
	wantThread(t, k, 1, heard(api.OK, 0, 7))
	wantLeaves(t, k, atFirst()[1:]...)
	for _, item := range []int{0, 4} { // page 4 is empty at first
		k := boot(t, lenders())
		lend(t, k, page{0, 1}, 3, page{2, 2}, true)
		turn(t, k, 0)
		ipc(t, k, 0, lending(item, 3, send(1, 7)))
		lend(t, k, page{2, 2}, 3, page{3, item}, true)
		before := allLeaves(k)
		turn(t, k, 1)
		ipc(t, k, 1, into(4, receive(-1)))
		wantThread(t, k, 1, got(4, heard(api.OK, 0, 7)))
		wantLeaves(t, k, slices.Insert(slices.Clone(before), len(before)-1, leaf(1, 4, 6, 1))...)
		turn(t, k, 3)
		wantCode(t, "P9: Unmap", k.Unmap(item, false), api.OK)
		wantLeaves(t, k, before...)
	}
}

func TestAnEmptyPageIsNotLent(t *testing.T) {
	for _, item := range []int{3, 4, 5} {
		for rights := range 4 {
			k := boot(t, lenders())
			lend(t, k, page{0, item}, rights, page{1, 0}, false)
			wantLeaves(t, k, atFirst()...)
		}
	}
}

// What is not delivered lends nothing: there is no pass, nobody receives, or the time is over.
func TestWhatIsNotDeliveredLendsNothing(t *testing.T) {
	for _, x := range []struct {
		m    api.Message
		code api.Errno
	}{
		{send(5, 1), api.ErrPass}, {send(0, 1), api.ErrPass}, {during(0, send(1, 1)), api.ErrBusy}, {during(2, send(1, 1)), api.ErrTimeout},
		{during(0, receive(-1)), api.ErrBusy}, {during(2, receive(-1)), api.ErrTimeout}, {during(2, call(1, 1, 1)), api.ErrTimeout},
	} {
		k := lentOn(t)
		want := allLeaves(k)
		turn(t, k, 0)
		ipc(t, k, 0, lending(1, 3, into(5, x.m)))
		ticks(k, 2)
		wantThread(t, k, 0, idle(x.code))
		wantLeaves(t, k, want...)
		// nor is it lent by the next one who receives
		turn(t, k, 1)
		ipc(t, k, 1, into(4, during(0, receive(-1))))
		wantThread(t, k, 1, idle(api.ErrBusy))
		wantLeaves(t, k, want...)
	}
}

// Got goes with the rest of what Look tells, when the next Ipc is over.
func TestGotIsOfTheLastIpc(t *testing.T) {
	k := boot(t, lenders())
	lend(t, k, page{0, 0}, 3, page{1, 0}, true)
	turn(t, k, 1)
	ipc(t, k, 1, into(5, during(1, receive(-1))))
	wantThread(t, k, 1, receiving(got(0, heard(api.OK, 0, 1, 2))))
	k.Tick()
	wantThread(t, k, 1, idle(api.ErrTimeout))
	// what came stays, though Look tells of it no more
	wantLeaves(t, k, atFirst(leaf(1, 0, 5, 3))...)
}

// An Item is of no use where nothing is sent, a Window where nothing is received.
func TestItemAndWindowTheWrongWayRound(t *testing.T) {
	for _, ahead := range []bool{false, true} {
		k := boot(t, lenders())
		if ahead {
			ipc(t, k, 0, lending(0, 3, receive(1)))
		}
		turn(t, k, 1)
		ipc(t, k, 1, into(4, send(0, 7)))
		if !ahead {
			turn(t, k, 0)
			ipc(t, k, 0, lending(0, 3, receive(1)))
		}
		wantThreads(t, k, heard(api.OK, 1, 7), idle(api.OK))
		wantLeaves(t, k, atFirst()...)
	}
}

// Numbers of a message that may not be: nothing changes, be it at the one who speaks or at the one who is spoken to.
func TestWrongNumbersLendNothing(t *testing.T) {
	for _, n := range odd {
		for _, x := range []struct {
			m     api.Message
			wrong bool
		}{
			{lending(n, 3, send(1, 7)), n < -1 || n > 5},
			{lending(0, n, send(1, 7)), n < 0 || n > 3},
			{lending(0, 3, into(n, send(1, 7))), n < -1 || n > 5},
			{lending(n, 3, receive(-1)), n < -1 || n > 5},
			{lending(-1, n, receive(-1)), n < 0 || n > 3},
			{into(n, receive(-1)), n < -1 || n > 5},
		} {
			if !x.wrong {
				continue
			}
			k := lentOn(t)
			turn(t, k, 1)
			ipc(t, k, 1, into(4, receive(0)))
			turn(t, k, 0)
			want := tell(k)
			wantCode(t, "P5: Ipc", k.Ipc(x.m), api.ErrArg)
			wantSame(t, "P1", tell(k), want)
		}
	}
}

// Thread 1 asks for a page, with a window for it, and hands it back; thread 0 had lent it with a window of its own.
func TestLendAndReceiveInOneMessage(t *testing.T) {
	k := boot(t, lenders())
	ipc(t, k, 0, lending(0, 3, into(5, call(1, 1, 7))))
	turn(t, k, 1)
	ipc(t, k, 1, into(4, receive(-1)))
	wantThreads(t, k, receiving(fresh), got(4, heard(api.OK, 0, 7)))
	turn(t, k, 1)
	ipc(t, k, 1, lending(4, 2, into(2, call(0, 0, 8))))
	wantThreads(t, k, got(5, heard(api.OK, 1, 8)), receiving(got(4, heard(api.OK, 0, 7))))
	wantLeaves(t, k, atFirst(leaf(0, 5, 5, 2), leaf(1, 4, 5, 3))...)
	// what thread 1 has lent is not lent once more by what it receives then
	turn(t, k, 0)
	ipc(t, k, 0, lending(1, 3, send(1, 9)))
	wantThreads(t, k, idle(api.OK), got(2, heard(api.OK, 0, 9)))
	wantLeaves(t, k, atFirst(leaf(0, 5, 5, 2), leaf(1, 2, 6, 1), leaf(1, 4, 5, 3))...)
}

// Thread 1 lends page 4 on to thread 2 before anything came there: in a chain one is heard ahead of what it hears.
func TestAChainLendsStepByStep(t *testing.T) {
	k := boot(t, lenders())
	ipc(t, k, 0, lending(0, 3, send(1, 10)))
	turn(t, k, 1)
	ipc(t, k, 1, lending(4, 3, into(4, call(2, -1, 11))))
	turn(t, k, 2)
	ipc(t, k, 2, into(3, receive(-1)))
	wantThreads(t, k, idle(api.OK), got(4, heard(api.OK, 0, 10)), heard(api.OK, 1, 11))
	wantLeaves(t, k, atFirst(leaf(1, 4, 5, 3))...)
	// of those who wait each one lends by its own message
	k = boot(t, lenders())
	ipc(t, k, 0, lending(0, 1, send(2, 10)))
	turn(t, k, 3)
	ipc(t, k, 3, lending(2, 3, send(2, 13)))
	turn(t, k, 2)
	ipc(t, k, 2, into(3, receive(3)))
	wantThread(t, k, 2, got(3, heard(api.OK, 3, 13)))
	turn(t, k, 2)
	ipc(t, k, 2, into(1, receive(-1)))
	wantThread(t, k, 2, got(1, heard(api.OK, 0, 10)))
	wantLeaves(t, k, atFirst(leaf(2, 1, 5, 1), leaf(2, 3, 7, 2))...)
}

func TestKernelsLendApart(t *testing.T) {
	a, b := lentOn(t), lentOn(t)
	want := tell(b)
	turn(t, a, 0)
	wantCode(t, "P9: Unmap", a.Unmap(0, true), api.OK)
	wantLeaves(t, a, atFirst()[1:]...)
	lend(t, a, page{0, 1}, 3, page{1, 1}, true)
	wantSame(t, "P2", tell(b), want)
}
