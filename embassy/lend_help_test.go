package embassy_test

import (
	"slices"
	"testing"

	"embassy/api"
	"embassy/embassy"
)

// lenders gives a configuration with the threads 0, 1 and 2 in spaces of their own, and thread 3 in space 0 too, all in one row. Each space has in its slots 0 to 3 a pass, with both rights, for the thread of that number, and in slot 4 one for thread 1 that may only speak. Space 0 has the leaves of atFirst.
func lenders() api.Config {
	c := api.Config{
		Spaces:  3,
		Threads: []api.Place{{Space: 0, Row: 1}, {Space: 1, Row: 1}, {Space: 2, Row: 1}, {Space: 0, Row: 1}},
		Leaves:  atFirst(),
	}
	for s := range c.Spaces {
		for n := range c.Threads {
			c.Passes = append(c.Passes, api.Pass{Space: s, Slot: n, Thread: n, Rights: 3})
		}
		c.Passes = append(c.Passes, api.Pass{Space: s, Slot: 4, Thread: 1, Rights: api.Speak})
	}
	return c
}

// atFirst has a leaf with both rights, one with Read and one with Write.
func atFirst(more ...api.Leaf) []api.Leaf {
	return append([]api.Leaf{leaf(0, 0, 5, 3), leaf(0, 1, 6, 1), leaf(0, 2, 7, 2)}, more...)
}

func leaf(space, page, frame, rights int) api.Leaf {
	return api.Leaf{Space: space, Page: page, Frame: frame, Rights: rights}
}

// lending is a message with which a page is lent, into one with a page in which something may come.
func lending(item, rights int, m api.Message) api.Message {
	m.Item, m.Rights = item, rights
	return m
}

func into(window int, m api.Message) api.Message {
	m.Window = window
	return m
}

// got is what Look tells of a thread to which something came into a page.
func got(page int, x api.Thread) api.Thread {
	x.Got = page
	return x
}

// turn lets all others yield until this thread is the current one.
func turn(t *testing.T, k *embassy.Kernel, thread int) {
	t.Helper()
	for range api.MaxThreads {
		if k.Current() != thread {
			k.Yield()
		}
	}
	wantCurrent(t, k, thread)
}

// page is a page of the space in which a thread lives.
type page struct{ thread, page int }

// lend lets one thread lend a page, with these rights, to another one, which gets it in a page, or does not.
func lend(t *testing.T, k *embassy.Kernel, item page, rights int, window page, gets bool) {
	t.Helper()
	lendInOrder(t, k, true, item, rights, window, gets)
}

// lendInOrder has the receiver wait for the sender if it is ahead, else the sender for the receiver.
func lendInOrder(t *testing.T, k *embassy.Kernel, ahead bool, item page, rights int, window page, gets bool) {
	t.Helper()
	speak := func() {
		turn(t, k, item.thread)
		ipc(t, k, item.thread, lending(item.page, rights, send(window.thread, 1, 2)))
	}
	if !ahead {
		speak()
	}
	turn(t, k, window.thread)
	ipc(t, k, window.thread, into(window.page, receive(item.thread)))
	if ahead {
		speak()
	}
	want := heard(api.OK, item.thread, 1, 2)
	if gets {
		want = got(window.page, want)
	}
	wantThread(t, k, window.thread, want)
	wantThread(t, k, item.thread, idle(api.OK))
}

// lentOn gives a kernel of lenders in which page 0 of space 0 was lent to page 4 of space 1, that one to page 3 of space 2, and that one to page 5 of space 0.
func lentOn(t *testing.T) *embassy.Kernel {
	t.Helper()
	k := boot(t, lenders())
	lend(t, k, page{0, 0}, 3, page{1, 4}, true)
	lend(t, k, page{1, 4}, 3, page{2, 3}, true)
	lend(t, k, page{2, 3}, 3, page{3, 5}, true)
	wantLeaves(t, k, atFirst(leaf(0, 5, 5, 3), leaf(1, 4, 5, 3), leaf(2, 3, 5, 3))...)
	return k
}

// wantLeaves asks for the leaves of all spaces, by rising spaces and pages.
func wantLeaves(t *testing.T, k *embassy.Kernel, want ...api.Leaf) {
	t.Helper()
	if list := allLeaves(k); !slices.Equal(list, want) {
		t.Errorf("P6, P9: the spaces have the leaves %+v, want %+v", list, want)
	}
}

func allLeaves(k *embassy.Kernel) []api.Leaf {
	var list []api.Leaf
	for _, s := range tell(k).Spaces {
		list = append(list, s.Leaves...)
	}
	return list
}
