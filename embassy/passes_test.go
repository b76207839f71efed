package embassy_test

import (
	"slices"
	"testing"

	"embassy/api"
	"embassy/embassy"
)

// holding gives a configuration with three threads, the first one alone in its space, and there passes for the second one with these rights in the first slots; 0: none.
func holding(rights ...int) api.Config {
	c := api.Config{Spaces: 2, Threads: []api.Place{{Space: 0}, {Space: 1}, {Space: 1}}}
	for slot, r := range rights {
		if r != 0 {
			c.Passes = append(c.Passes, api.Pass{Slot: slot, Thread: 1, Rights: r})
		}
	}
	return c
}

func wantPasses(t *testing.T, k *embassy.Kernel, space int, want ...api.Pass) {
	t.Helper()
	if s, e := k.Space(space); e != api.OK || !slices.Equal(s.Passes, want) {
		t.Errorf("P9, P10: Space(%d) has the passes %+v, %d, want %+v", space, s.Passes, e, want)
	}
}

func TestDeriveOfAllRights(t *testing.T) {
	for has := range 4 {
		for _, rights := range odd {
			k := boot(t, holding(has))
			want := tell(k)
			code := api.OK
			switch {
			case rights < 1 || rights > 3:
				code = api.ErrArg
			case has&rights != rights:
				code = api.ErrPass
			}
			wantCode(t, "P9: Derive", k.Derive(0, 4, rights), code)
			if code == api.OK {
				want.Spaces[0].Passes = append(want.Spaces[0].Passes, api.Pass{Slot: 4, Thread: 1, Rights: rights})
			}
			wantSame(t, "P9", tell(k), want)
		}
	}
}

// Slot 3 is the only one with a pass: ErrArg comes ahead of ErrPass.
func TestDeriveAtEveryNumber(t *testing.T) {
	for _, slot := range odd {
		for _, to := range odd {
			for _, rights := range []int{-1, 0, 1, 2, 3, 4} {
				k := boot(t, holding(0, 0, 0, 2))
				want := tell(k)
				code := api.OK
				switch {
				case slot < 0 || slot >= api.Slots || to < 0 || to >= api.Slots || rights < 1 || rights > 3:
					code = api.ErrArg
				case slot != 3 || rights != 2:
					code = api.ErrPass
				}
				wantCode(t, "P9: Derive", k.Derive(slot, to, rights), code)
				if code != api.OK {
					wantSame(t, "P1", tell(k), want)
				}
			}
		}
	}
}

func TestDeriveBetweenAllSlots(t *testing.T) {
	for slot := range api.Slots {
		for to := range api.Slots {
			if slot == to {
				continue
			}
			all := make([]int, api.Slots)
			all[slot] = 3
			k := boot(t, holding(all...))
			wantCode(t, "P9: Derive", k.Derive(slot, to, 2), api.OK)
			all[to] = 2
			wantSame(t, "P9", tell(k), tell(boot(t, holding(all...))))
		}
	}
}

func TestDeriveIntoTheSlotItself(t *testing.T) {
	for _, slot := range []int{0, 2, api.Slots - 1} {
		all := make([]int, api.Slots)
		all[slot] = 3
		k := boot(t, holding(all...))
		wantCode(t, "P9: Derive", k.Derive(slot, slot, 3), api.OK)
		wantPasses(t, k, 0, api.Pass{Slot: slot, Thread: 1, Rights: 3})
		wantCode(t, "P9: Derive", k.Derive(slot, slot, 1), api.OK)
		wantPasses(t, k, 0, api.Pass{Slot: slot, Thread: 1, Rights: 1})
		wantCode(t, "P9: Derive", k.Derive(slot, slot, 2), api.ErrPass)
		wantCode(t, "P9: Derive", k.Derive(slot, slot, 3), api.ErrPass)
		wantPasses(t, k, 0, api.Pass{Slot: slot, Thread: 1, Rights: 1})
	}
}

// Whatever is in the slot gives way: a pass with more rights, one with others, one for somebody else.
func TestDeriveIntoASlotThatHasAPass(t *testing.T) {
	for has := 1; has <= 3; has++ {
		for rights := 1; rights <= 3; rights++ {
			for other := range 3 {
				c := holding(3)
				c.Passes = append(c.Passes, api.Pass{Slot: 5, Thread: other, Rights: has}, api.Pass{Space: 1, Slot: 5, Thread: 0, Rights: 1})
				k := boot(t, c)
				wantCode(t, "P9: Derive", k.Derive(0, 5, rights), api.OK)
				wantPasses(t, k, 0, api.Pass{Slot: 0, Thread: 1, Rights: 3}, api.Pass{Slot: 5, Thread: 1, Rights: rights})
				wantPasses(t, k, 1, api.Pass{Space: 1, Slot: 5, Thread: 0, Rights: 1})
			}
		}
	}
}

// A pass that was derived stands on its own.
func TestWhatWasDerivedStays(t *testing.T) {
	k := boot(t, holding(3))
	wantCode(t, "P9: Derive", k.Derive(0, 1, 3), api.OK)
	wantCode(t, "P9: Derive", k.Derive(0, 0, 1), api.OK)
	wantPasses(t, k, 0, api.Pass{Slot: 0, Thread: 1, Rights: 1}, api.Pass{Slot: 1, Thread: 1, Rights: 3})
	wantCode(t, "P9: Drop", k.Drop(0), api.OK)
	wantPasses(t, k, 0, api.Pass{Slot: 1, Thread: 1, Rights: 3})
	wantCode(t, "P9: Derive", k.Derive(1, 0, 2), api.OK)
	wantPasses(t, k, 0, api.Pass{Slot: 0, Thread: 1, Rights: 2}, api.Pass{Slot: 1, Thread: 1, Rights: 3})
}

func TestDropOfEverySlot(t *testing.T) {
	for rights := 1; rights <= 3; rights++ {
		for slot := range api.Slots {
			all := []int{rights, rights, rights, rights, rights, rights}
			k := boot(t, holding(all...))
			wantCode(t, "P9: Drop", k.Drop(slot), api.OK)
			all[slot] = 0
			want := tell(boot(t, holding(all...)))
			wantSame(t, "P9", tell(k), want)
			wantCode(t, "P9: Drop", k.Drop(slot), api.ErrPass)
			wantCode(t, "P9: Derive", k.Derive(slot, 0, 1), api.ErrPass)
			wantSame(t, "P1", tell(k), want)
		}
	}
}

func TestDropAtEveryNumber(t *testing.T) {
	k := boot(t, holding())
	want := tell(k)
	for _, slot := range odd {
		code := api.ErrArg
		if 0 <= slot && slot < api.Slots {
			code = api.ErrPass
		}
		wantCode(t, "P9: Drop", k.Drop(slot), code)
		wantSame(t, "P1", tell(k), want)
	}
}

func TestPassesAreThoseOfTheCurrentThread(t *testing.T) {
	c := holding(3)
	c.Passes = append(c.Passes, api.Pass{Space: 1, Slot: 1, Thread: 0, Rights: 3})
	k := boot(t, c)
	k.Yield()
	wantCurrent(t, k, 1)
	wantCode(t, "P9: Drop", k.Drop(0), api.ErrPass)
	wantCode(t, "P9: Derive", k.Derive(0, 2, 1), api.ErrPass)
	wantCode(t, "P9: Derive", k.Derive(1, 2, 1), api.OK)
	k.Yield()
	wantCurrent(t, k, 2)
	wantCode(t, "P9: Drop", k.Drop(1), api.OK)
	wantPasses(t, k, 0, api.Pass{Slot: 0, Thread: 1, Rights: 3})
	wantPasses(t, k, 1, api.Pass{Space: 1, Slot: 2, Thread: 0, Rights: 1})
}

func TestKernelsHaveTheirOwnPasses(t *testing.T) {
	a, b := boot(t, holding(3)), boot(t, holding(3))
	want := tell(b)
	wantCode(t, "P9: Derive", a.Derive(0, 1, 1), api.OK)
	wantCode(t, "P9: Drop", a.Drop(0), api.OK)
	wantSame(t, "P2", tell(b), want)
}
