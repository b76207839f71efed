package embassy

import (
	"errors"
	"math"
	"testing"

	"embassy/api"
	"embassy/deny"
)

// A kernel that New did not make has no threads.
func TestAKernelWithoutThreads(t *testing.T) {
	var k Kernel
	if n := k.Current(); n != -1 {
		t.Errorf("P3: Current = %d, want -1", n)
	}
	if e := k.Yield(); e != api.ErrNone {
		t.Errorf("P4: Yield = %d, want ErrNone", e)
	}
	for _, n := range []int{math.MinInt, -1, 0, 1, api.Slots, math.MaxInt} {
		wantNone(t, &k, n)
	}
	k.Tick()
	if _, e := k.Look(0); e != api.ErrArg {
		t.Errorf("P10: Look = %d, want ErrArg", e)
	}
	if _, e := k.Space(0); e != api.ErrArg {
		t.Errorf("P10: Space = %d, want ErrArg", e)
	}
}

// wantNone asks for ErrNone, which is named ahead of the error for a wrong number.
func wantNone(t *testing.T, k *Kernel, n int) {
	t.Helper()
	number, e := k.Load(n, n)
	if number != 0 || e != api.ErrNone {
		t.Errorf("P8: Load(%d, %d) = %d, %d, want 0 and ErrNone", n, n, number, e)
	}
	for name, e := range map[string]api.Errno{
		"P8: Store":  k.Store(n, n, 1),
		"P9: Unmap":  k.Unmap(n, n < 1),
		"P9: Derive": k.Derive(n, n, n),
		"P9: Drop":   k.Drop(n),
		"P5: Ipc":    k.Ipc(api.Message{To: n, From: n, Wait: n}),
	} {
		if e != api.ErrNone {
			t.Errorf("%s at %d = %d, want ErrNone", name, n, e)
		}
	}
}

func TestNumberOfADenial(t *testing.T) {
	if e := number(nil); e != api.OK {
		t.Errorf("number(nil) = %d", e)
	}
	for code := api.ErrConfig; code <= api.ErrPage; code++ {
		var err error = deny.Denial{Code: code}
		for range 3 {
			if e := number(err); e != code {
				t.Errorf("number(%v) = %d, want %d", err, e, code)
			}
			err = deny.Met{By: "somebody", Err: err}
		}
	}
	if e := number(errors.Join(errors.New("other"), deny.Denial{Code: api.ErrBusy})); e != api.ErrBusy {
		t.Errorf("number of joined errors = %d", e)
	}
}
