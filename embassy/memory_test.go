package embassy_test

import (
	"math"
	"testing"

	"embassy/api"
	"embassy/embassy"
)

// paged gives a configuration with one thread, and leaves with these rights in the first pages of its space, each with a frame of its own; 0: none.
func paged(rights ...int) api.Config {
	c := inRows(0)
	for page, r := range rights {
		if r != 0 {
			c.Leaves = append(c.Leaves, api.Leaf{Page: page, Frame: api.Frames - 1 - page, Rights: r})
		}
	}
	return c
}

// shared gives a configuration with two threads, each alone in its space: frame 3 is in two pages of space 0 and in one of space 1.
func shared() api.Config {
	return api.Config{
		Spaces:  2,
		Threads: []api.Place{{Space: 0}, {Space: 1}},
		Leaves: []api.Leaf{
			{Space: 0, Page: 0, Frame: 3, Rights: 3}, {Space: 0, Page: 5, Frame: 3, Rights: 1}, {Space: 0, Page: 1, Frame: 0, Rights: 3},
			{Space: 1, Page: 5, Frame: 3, Rights: 3}, {Space: 1, Page: 1, Frame: 7, Rights: 3},
		},
	}
}

func wantCode(t *testing.T, what string, e, want api.Errno) {
	t.Helper()
	if e != want {
		t.Errorf("%s = %d, want %d", what, e, want)
	}
}

func wantLoad(t *testing.T, k *embassy.Kernel, page, cell int, want int64, code api.Errno) {
	t.Helper()
	if n, e := k.Load(page, cell); n != want || e != code {
		t.Errorf("P8: Load(%d, %d) = %d, %d, want %d, %d", page, cell, n, e, want, code)
	}
}

func wantStore(t *testing.T, k *embassy.Kernel, page, cell int, n int64, code api.Errno) {
	t.Helper()
	if e := k.Store(page, cell, n); e != code {
		t.Errorf("P8: Store(%d, %d, %d) = %d, want %d", page, cell, n, e, code)
	}
}

func TestEveryCellIsApart(t *testing.T) {
	k := boot(t, paged(3, 3, 3, 3, 3, 3))
	number := func(page, cell int) int64 { return int64(100*page + cell + 1) }
	for page := range api.Pages {
		for cell := range api.Cells {
			wantLoad(t, k, page, cell, 0, api.OK)
			wantStore(t, k, page, cell, number(page, cell), api.OK)
		}
	}
	for page := range api.Pages {
		for cell := range api.Cells {
			wantLoad(t, k, page, cell, number(page, cell), api.OK)
		}
	}
}

func TestEveryFrameIsApart(t *testing.T) {
	c := api.Config{Spaces: 2, Threads: []api.Place{{Space: 0}, {Space: 1}}}
	for f := range api.Frames {
		c.Leaves = append(c.Leaves, api.Leaf{Space: f / 4, Page: f % 4, Frame: f, Rights: 3})
	}
	k := boot(t, c)
	for _, l := range c.Leaves {
		if k.Current() != l.Space {
			k.Yield()
		}
		wantLoad(t, k, l.Page, 2, 0, api.OK)
		wantStore(t, k, l.Page, 2, int64(l.Frame+1), api.OK)
	}
	for _, l := range c.Leaves {
		if k.Current() != l.Space {
			k.Yield()
		}
		wantLoad(t, k, l.Page, 2, int64(l.Frame+1), api.OK)
	}
}

func TestNumbersOfAllSizesAreKept(t *testing.T) {
	k := boot(t, paged(3))
	for _, n := range []int64{math.MaxInt64, math.MinInt64, -1, 1, 0, math.MaxInt32 + 1, math.MinInt32 - 1, 1<<53 + 1} {
		wantStore(t, k, 0, 1, n, api.OK)
		wantLoad(t, k, 0, 1, n, api.OK)
		wantLoad(t, k, 0, 0, 0, api.OK)
		wantLoad(t, k, 0, 2, 0, api.OK)
	}
}

func TestRightsOfPages(t *testing.T) {
	for _, page := range []int{0, 3, api.Pages - 1} {
		for rights := 0; rights <= 3; rights++ {
			all := make([]int, api.Pages)
			all[page] = rights
			k := boot(t, paged(all...))
			load, store := api.ErrFault, api.ErrFault
			if rights == 1 || rights == 3 {
				load = api.OK
			}
			if rights == 2 || rights == 3 {
				store = api.OK
			}
			for _, cell := range []int{0, api.Cells - 1} {
				wantLoad(t, k, page, cell, 0, load)
				wantStore(t, k, page, cell, 0, store)
			}
		}
	}
}

// The number that was stored by another leaf must not come out with the error.
func TestALoadWithoutReadTellsNothing(t *testing.T) {
	c := paged(2)
	c.Leaves = append(c.Leaves, api.Leaf{Page: 1, Frame: c.Leaves[0].Frame, Rights: 3})
	k := boot(t, c)
	wantStore(t, k, 0, 0, 55, api.OK)
	wantLoad(t, k, 1, 0, 55, api.OK)
	wantLoad(t, k, 0, 0, 0, api.ErrFault)
}

func TestAStoreWithoutWriteChangesNothing(t *testing.T) {
	k := boot(t, shared())
	wantStore(t, k, 0, 0, 12, api.OK)
	wantStore(t, k, 5, 0, 13, api.ErrFault)
	wantStore(t, k, 2, 0, 14, api.ErrFault)
	wantLoad(t, k, 0, 0, 12, api.OK)
	wantLoad(t, k, 5, 0, 12, api.OK)
	wantLoad(t, k, 1, 0, 0, api.OK)
	wantLoad(t, k, 2, 0, 0, api.ErrFault)
}

// Page 0 has a leaf with all rights, page 1 none: ErrArg comes ahead of ErrFault at both.
func TestEveryNumberOfPagesAndCells(t *testing.T) {
	k := boot(t, paged(3))
	want := tell(k)
	for _, page := range odd {
		for _, cell := range odd {
			code := api.ErrFault
			if page < 0 || page >= api.Pages || cell < 0 || cell >= api.Cells {
				code = api.ErrArg
			} else if page == 0 {
				code = api.OK
			}
			wantLoad(t, k, page, cell, 0, code)
			wantStore(t, k, page, cell, 0, code)
		}
	}
	wantSame(t, "P8", tell(k), want)
}

func TestOneFrameInSeveralPages(t *testing.T) {
	k := boot(t, shared())
	for cell := range api.Cells {
		wantCurrent(t, k, 0)
		wantStore(t, k, 0, cell, int64(cell+10), api.OK)
		wantLoad(t, k, 0, cell, int64(cell+10), api.OK)
		wantLoad(t, k, 5, cell, int64(cell+10), api.OK)
		wantLoad(t, k, 1, cell, 0, api.OK)
		k.Yield()
		wantLoad(t, k, 5, cell, int64(cell+10), api.OK)
		wantLoad(t, k, 1, cell, 0, api.OK)
		wantLoad(t, k, 0, cell, 0, api.ErrFault)
		wantStore(t, k, 5, cell, int64(-cell), api.OK)
		k.Yield()
		wantLoad(t, k, 0, cell, int64(-cell), api.OK)
		wantLoad(t, k, 5, cell, int64(-cell), api.OK)
	}
}

func TestThreadsOfOneSpaceHaveTheSamePages(t *testing.T) {
	c := inRows(1, 1)
	c.Leaves = []api.Leaf{{Page: 5, Frame: 7, Rights: 3}}
	k := boot(t, c)
	wantStore(t, k, 5, 3, 9, api.OK)
	k.Yield()
	wantLoad(t, k, 5, 3, 9, api.OK)
	wantCode(t, "P9: Unmap", k.Unmap(5, true), api.OK)
	k.Yield()
	wantLoad(t, k, 5, 3, 0, api.ErrFault)
}

func TestKernelsHaveTheirOwnMemory(t *testing.T) {
	a, b := boot(t, shared()), boot(t, shared())
	wantStore(t, a, 0, 0, 5, api.OK)
	wantLoad(t, b, 0, 0, 0, api.OK)
	wantStore(t, b, 0, 0, 6, api.OK)
	wantLoad(t, a, 0, 0, 5, api.OK)
	wantLoad(t, boot(t, shared()), 0, 0, 0, api.OK)
	wantCode(t, "P9: Unmap", a.Unmap(0, true), api.OK)
	wantLoad(t, b, 0, 0, 6, api.OK)
}

func TestMemoryStaysAsTimePasses(t *testing.T) {
	k := boot(t, shared())
	wantStore(t, k, 0, 0, 5, api.OK)
	for range 2 * api.Slice {
		k.Tick()
	}
	wantCurrent(t, k, 0)
	wantLoad(t, k, 0, 0, 5, api.OK)
}
