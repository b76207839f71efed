package embassy_test

import (
	"slices"
	"testing"

	"embassy/api"
	"embassy/embassy"
)

// handOver lets thread 0 send words to thread 1, which receives ahead of that or behind it; with spoil they are written over as soon as they were handed in.
func handOver(t *testing.T, words []int64, ahead, spoil bool) *embassy.Kernel {
	t.Helper()
	k := boot(t, talkers(1, 1))
	if ahead {
		k.Yield()
		ipc(t, k, 1, receive(-1))
	}
	ipc(t, k, 0, send(1, words...))
	if spoil {
		writeOver(words, -7)
	}
	if !ahead {
		ipc(t, k, 1, receive(-1))
	}
	return k
}

func TestWordsAreNotKept(t *testing.T) {
	for n := range api.MaxWords + 1 {
		want := []int64{1, 2, 3, 4}[:n]
		for _, ahead := range []bool{false, true} {
			words := withRoom(want, 9)
			k := handOver(t, words, ahead, true)
			wantThread(t, k, 1, heard(api.OK, 0, want...))
			writeOver(words, -8)
			wantThread(t, k, 1, heard(api.OK, 0, want...))
		}
	}
}

func TestWordsAreNotWrittenInto(t *testing.T) {
	for n := range api.MaxWords + 1 {
		for _, ahead := range []bool{false, true} {
			words := withRoom([]int64{1, 2, 3, 4}[:n], 9)
			before := slices.Clone(words[:cap(words)])
			k := handOver(t, words, ahead, false)
			// nor by what comes later
			ipc(t, k, 1, call(0, -1, 5, 5, 5, 5))
			ipc(t, k, 0, call(1, -1, 6))
			if all := words[:cap(words)]; !slices.Equal(all, before) {
				t.Errorf("P2: words that were handed in are %v, want %v", all, before)
			}
		}
	}
}

func TestDeniedWordsAreNotWrittenInto(t *testing.T) {
	k := boot(t, talkers(1, 1))
	words := withRoom([]int64{1, 2, 3, 4, 5}, 9)
	before := slices.Clone(words[:cap(words)])
	wantCode(t, "P5: Ipc", k.Ipc(send(1, words...)), api.ErrArg)
	wantCode(t, "P5: Ipc", k.Ipc(send(5, words[:3]...)), api.OK)
	if all := words[:cap(words)]; !slices.Equal(all, before) {
		t.Errorf("P2: words that were denied are %v, want %v", all, before)
	}
}

// What Look gave is written over, its spare room too: neither what is kept nor another answer has changed.
func TestWordsThatComeOut(t *testing.T) {
	for n := range api.MaxWords + 1 {
		want := []int64{1, 2, 3, 4}[:n]
		k := boot(t, talkers(2, 1))
		ipc(t, k, 0, receive(-1))
		words := withRoom(want, 9)
		ipc(t, k, 1, send(0, words...))
		first, _ := k.Look(0)
		second, _ := k.Look(0)
		if share(first.Words, second.Words, -7) || share(second.Words, words, -8) {
			t.Error("P2: the words of two answers share memory")
		}
		wantThread(t, k, 0, heard(api.OK, 1, want...))
	}
}

// One who hands on what it has heard, as it came out of Look, and writes it over.
func TestWordsAreHandedOn(t *testing.T) {
	k := boot(t, talkers(2, 1, 0))
	ipc(t, k, 0, receive(-1))
	ipc(t, k, 1, send(0, 1, 2))
	x, _ := k.Look(0)
	ipc(t, k, 0, send(2, x.Words...))
	writeOver(x.Words, -7)
	ipc(t, k, 1, receive(-1))
	ipc(t, k, 2, receive(-1))
	wantThread(t, k, 2, heard(api.OK, 0, 1, 2))
}

// The same words are sent in two kernels.
func TestKernelsHaveTheirOwnMessages(t *testing.T) {
	a, b := boot(t, talkers(1, 1)), boot(t, talkers(1, 1))
	words := []int64{4, 5}
	ipc(t, a, 0, send(1, words...))
	ipc(t, b, 0, send(1, words...))
	want := tell(b)
	ipc(t, a, 1, receive(-1))
	x, _ := a.Look(1)
	writeOver(x.Words, -7)
	ticks(a, 5)
	wantSame(t, "P2", tell(b), want)
	ipc(t, b, 1, receive(-1))
	wantThreads(t, b, idle(api.OK), heard(api.OK, 0, 4, 5))
}
