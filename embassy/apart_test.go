package embassy_test

import (
	"math/rand"
	"reflect"
	"testing"

	"embassy/api"
	"embassy/embassy"
)

// apart gives a configuration with the threads 0 to 2 in the spaces 0 and 1, and the threads 3 to 5, in another row, in space 2: nobody has a pass for one of the others, and no frame is in both.
func apart(row, other int) api.Config {
	c := api.Config{Spaces: 3}
	for n := range 6 {
		if n < 3 {
			c.Threads = append(c.Threads, api.Place{Space: n % 2, Row: row})
			c.Passes = append(c.Passes, api.Pass{Space: 0, Slot: n, Thread: n, Rights: 3}, api.Pass{Space: 1, Slot: n, Thread: n, Rights: 3})
		} else {
			c.Threads = append(c.Threads, api.Place{Space: 2, Row: other})
			c.Passes = append(c.Passes, api.Pass{Space: 2, Slot: n, Thread: n, Rights: 3})
		}
	}
	for n := range 4 {
		c.Leaves = append(c.Leaves, leaf(n%2, n, n, 3), leaf(2, n, 4+n, 3))
	}
	return c
}

// view is what those of the spaces 0 and 1 are told.
func view(k *embassy.Kernel) report {
	r := tell(k)
	r.Threads, r.Spaces = r.Threads[:3], r.Spaces[:2]
	if r.Current >= 3 {
		r.Current = -1
	}
	return r
}

// work is a call by chance that changes nothing of who is current, act may be any call but Tick; they tell what was answered.
func work(k *embassy.Kernel, r *rand.Rand) [2]int64 {
	a, b := r.Intn(8)-1, r.Intn(8)-1
	switch r.Intn(6) {
	case 0, 1:
		n, e := k.Load(a, b%5)
		return [2]int64{int64(e), n}
	case 2, 3:
		return [2]int64{int64(k.Store(a, b%5, r.Int63()))}
	case 4:
		return [2]int64{int64(k.Unmap(a, r.Intn(8) == 0))}
	default:
		return [2]int64{int64(k.Derive(a, b, 1+r.Intn(3)))}
	}
}

func act(k *embassy.Kernel, r *rand.Rand) [2]int64 {
	switch r.Intn(4) {
	case 0:
		return work(k, r)
	case 1:
		return [2]int64{int64(k.Yield())}
	default:
		return [2]int64{int64(k.Ipc(letter(r, api.MaxThreads)))}
	}
}

// wantApart lets the threads of the spaces 0 and 1 do the same in two kernels, while those of space 2 do one thing here and another there: the first ones are told the same.
func wantApart(t *testing.T, seed int64, c api.Config, others func(k *embassy.Kernel, r *rand.Rand) [2]int64) {
	t.Helper()
	source := func(n int64) *rand.Rand { return rand.New(rand.NewSource(10*seed + n)) }
	a, b, chance := boot(t, c), boot(t, c), source(0)
	hereA, hereB, thereA, thereB := source(1), source(1), source(2), source(3)
	for step := range 300 {
		switch first := a.Current(); {
		case chance.Intn(4) == 0:
			a.Tick()
			b.Tick()
		case 0 <= first && first < 3:
			if x, y := act(a, hereA), act(b, hereB); x != y {
				t.Errorf("P11: a call is answered by %d and by %d", x, y)
			}
		default:
			others(a, thereA)
			others(b, thereB)
		}
		if x, y := view(a), view(b); !reflect.DeepEqual(x, y) {
			t.Errorf("P11: what is told is %+v and %+v", x, y)
		}
		if t.Failed() {
			t.Fatalf("round %d, step %d", seed, step)
		}
	}
}

// Those of space 2 stand in a lower row: whatever they do, who is current among the first ones is the same.
func TestThoseWhoAreApartLearnNothing(t *testing.T) {
	for seed := range int64(100) {
		wantApart(t, seed, apart(1, 0), act)
	}
}

// All stand in one row: those of space 2 do what changes nothing of who is current.
func TestThoseOfOneRowLearnNothing(t *testing.T) {
	for seed := range int64(100) {
		wantApart(t, seed, apart(2, 2), func(k *embassy.Kernel, r *rand.Rand) [2]int64 {
			answer := work(k, r)
			k.Yield()
			return answer
		})
	}
}

// No word and no page comes to one who has no pass, from one who has none: not by any number that it asks for.
func TestNothingComesToOneWhoIsApart(t *testing.T) {
	k := boot(t, apart(1, 1))
	turn(t, k, 3)
	for slot := range 3 {
		ipc(t, k, 3, lending(0, 3, call(slot, -1, 7)))
		wantThread(t, k, 3, idle(api.ErrPass))
	}
	for from := range 3 {
		ipc(t, k, 3, during(0, into(0, receive(from))))
		wantThread(t, k, 3, idle(api.ErrBusy))
		turn(t, k, from)
		ipc(t, k, from, during(0, into(0, receive(3))))
		wantThread(t, k, from, idle(api.ErrBusy))
		turn(t, k, 3)
	}
	wantSpaces(t, k, apart(1, 1))
}

// However often it is lent on, and with whatever rights that is asked for, a leaf gets no right back.
func TestRightsAreLostForGood(t *testing.T) {
	for item, first := range []int{3, 1, 2} {
		for rights := 1; rights <= 3; rights++ {
			k := boot(t, lenders())
			both := first & rights
			lend(t, k, page{0, item}, rights, page{1, 4}, both != 0)
			lend(t, k, page{1, 4}, 3, page{2, 3}, both != 0)
			lend(t, k, page{2, 3}, 3, page{3, 5}, both != 0)
			for _, l := range allLeaves(k)[3:] {
				if l.Frame != 5+item || l.Rights != both {
					t.Errorf("P11: %+v was lent from a leaf with %d, with %d", l, first, rights)
				}
			}
			// the others cannot be lent at all
			lend(t, k, page{3, 5}, 3-both, page{1, 0}, false)
		}
	}
}
