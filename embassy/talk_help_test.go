package embassy_test

import (
	"math"
	"slices"
	"testing"

	"embassy/api"
	"embassy/embassy"
)

// talkers gives a configuration with threads in rows, all in one space, which has in each slot a pass, with Speak, for the thread of that number.
func talkers(rows ...int) api.Config {
	c := inRows(rows...)
	for n := range rows {
		c.Passes = append(c.Passes, api.Pass{Slot: n, Thread: n, Rights: api.Speak})
	}
	return c
}

// send gives a message that is only sent, receive one that is only received, call one that does both; they wait for ever.
func send(to int, words ...int64) api.Message { return call(to, -2, words...) }

func receive(from int) api.Message { return call(-1, from) }

func call(to, from int, words ...int64) api.Message {
	return api.Message{To: to, Words: words, Item: -1, From: from, Window: -1, Wait: -1}
}

func during(wait int, m api.Message) api.Message {
	m.Wait = wait
	return m
}

// idle is what Look tells of a thread to which nothing was delivered, heard of one to which something was.
func idle(code api.Errno) api.Thread { return heard(code, -1) }

func heard(code api.Errno, from int, words ...int64) api.Thread {
	return api.Thread{State: api.Ready, Code: code, From: from, Words: words, Got: -1}
}

// sending and receiving are of a thread that waits, and of which Look told last before that.
func sending(last api.Thread) api.Thread {
	last.State = api.Sending
	return last
}

func receiving(last api.Thread) api.Thread {
	last.State = api.Receiving
	return last
}

// ipc makes a call by this thread, which must be the current one.
func ipc(t *testing.T, k *embassy.Kernel, thread int, m api.Message) {
	t.Helper()
	wantCurrent(t, k, thread)
	wantCode(t, "P5: Ipc", k.Ipc(m), api.OK)
}

func sameThread(a, b api.Thread) bool {
	return a.State == b.State && a.Code == b.Code && a.From == b.From && a.Got == b.Got && slices.Equal(a.Words, b.Words)
}

func wantThread(t *testing.T, k *embassy.Kernel, thread int, want api.Thread) {
	t.Helper()
	if x, e := k.Look(thread); e != api.OK || !sameThread(x, want) {
		t.Errorf("P5, P10: Look(%d) = %+v, %d, want %+v", thread, x, e, want)
	}
}

// wantThreads asks for what Look tells of all threads, from thread 0 on.
func wantThreads(t *testing.T, k *embassy.Kernel, want ...api.Thread) {
	t.Helper()
	for n, x := range want {
		wantThread(t, k, n, x)
	}
}

// wantOrder asks that the ready threads of the highest row stand there in this order, by letting them yield one after another.
func wantOrder(t *testing.T, k *embassy.Kernel, want ...int) {
	t.Helper()
	var got []int
	for range want {
		got = append(got, k.Current())
		k.Yield()
	}
	if !slices.Equal(got, want) || k.Current() != want[0] {
		t.Errorf("P5, P7: the row has %v, then %d, want %v", got, k.Current(), want)
	}
}

func ticks(k *embassy.Kernel, n int) {
	for range n {
		k.Tick()
	}
}

const longest = math.MaxInt
