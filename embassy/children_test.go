package embassy_test

import (
	"testing"

	"embassy/api"
)

// Beside what lentOn has, page 2 of space 2 has another one of page 0, and page 0 of space 1 one of page 1.
func TestUnmapOfEveryOneThatWasLentOn(t *testing.T) {
	other, twin := leaf(1, 0, 6, 1), leaf(2, 2, 5, 2)
	a, b, c := leaf(1, 4, 5, 3), leaf(2, 3, 5, 3), leaf(0, 5, 5, 3)
	for _, x := range []struct {
		of          page
		keep, empty []api.Leaf // without own, and with it
	}{
		{page{0, 0}, atFirst(other), atFirst(other)[1:]},
		{page{1, 4}, atFirst(other, a, twin), atFirst(other, twin)},
		{page{2, 3}, atFirst(other, a, twin, b), atFirst(other, a, twin)},
		{page{3, 5}, atFirst(c, other, a, twin, b), atFirst(other, a, twin, b)},
		{page{2, 2}, atFirst(c, other, a, twin, b), atFirst(c, other, a, b)},
		{page{1, 0}, atFirst(c, other, a, twin, b), atFirst(c, a, twin, b)},
		{page{3, 2}, atFirst(c, other, a, twin, b), append(atFirst()[:2], c, other, a, twin, b)},
	} {
		for _, own := range []bool{false, true} {
			k := lentOn(t)
			lend(t, k, page{0, 0}, 2, page{2, 2}, true)
			lend(t, k, page{3, 1}, 1, page{1, 0}, true)
			unmap(t, k, x.of, own)
			want := x.keep
			if own {
				want = x.empty
			}
			wantLeaves(t, k, want...)
			// what is there no more has nothing to be taken back
			if own {
				wantCode(t, "P9: Unmap", k.Unmap(x.of.page, own), api.ErrPage)
			} else {
				wantCode(t, "P9: Unmap", k.Unmap(x.of.page, own), api.OK)
			}
			wantLeaves(t, k, want...)
		}
	}
}

// At every number that names no leaf of the caller: nothing changes, whatever was lent.
func TestUnmapOfNoLeafTakesNothingBack(t *testing.T) {
	k := lentOn(t)
	for thread, pages := range map[int][]int{0: {0, 1, 2, 5}, 1: {4}, 2: {3}} {
		has := map[int]bool{}
		for _, n := range pages {
			has[n] = true
		}
		turn(t, k, thread)
		want := tell(k)
		for _, n := range odd {
			for _, own := range []bool{false, true} {
				switch {
				case has[n]:
				case n < 0 || n >= api.Pages:
					wantCode(t, "P9: Unmap", k.Unmap(n, own), api.ErrArg)
				default:
					wantCode(t, "P9: Unmap", k.Unmap(n, own), api.ErrPage)
				}
			}
		}
		wantSame(t, "P1", tell(k), want)
	}
}

func TestTakenBackAndLentOnceMore(t *testing.T) {
	k := lentOn(t)
	for range 3 {
		unmap(t, k, page{0, 0}, false)
		wantLeaves(t, k, atFirst()...)
		lend(t, k, page{0, 0}, 1, page{1, 4}, true)
		lend(t, k, page{1, 4}, 3, page{2, 3}, true)
		wantLeaves(t, k, atFirst(leaf(1, 4, 5, 1), leaf(2, 3, 5, 1))...)
	}
	// into another page, and from the middle
	unmap(t, k, page{1, 4}, false)
	lend(t, k, page{1, 4}, 1, page{2, 0}, true)
	wantLeaves(t, k, atFirst(leaf(1, 4, 5, 1), leaf(2, 0, 5, 1))...)
	unmap(t, k, page{0, 0}, true)
	wantLeaves(t, k, atFirst()[1:]...)
	// what is gone cannot be lent
	lend(t, k, page{0, 0}, 3, page{1, 4}, false)
	wantLeaves(t, k, atFirst()[1:]...)
}

// A page from which something was lent, and which was emptied, has another leaf: what comes of that is its own.
func TestAPageThatIsUsedAnew(t *testing.T) {
	k := boot(t, lenders())
	lend(t, k, page{0, 0}, 3, page{1, 4}, true)
	unmap(t, k, page{1, 4}, true)
	wantLeaves(t, k, atFirst()...)
	lend(t, k, page{0, 1}, 3, page{1, 4}, true)
	unmap(t, k, page{0, 0}, false)
	wantLeaves(t, k, atFirst(leaf(1, 4, 6, 1))...)
}

// Leaf after leaf, through all pages of all spaces.
func TestTheLongestWayOfALeaf(t *testing.T) {
	c := lenders()
	c.Leaves = c.Leaves[:1]
	all := api.MaxSpaces * api.Pages
	at := func(n int) page { return page{n % api.MaxSpaces, n / api.MaxSpaces} }
	for cut := range all {
		for _, own := range []bool{false, true} {
			k := boot(t, c)
			for n := range all - 1 {
				lend(t, k, at(n), 3, at(n+1), true)
			}
			if n := len(allLeaves(k)); n != all {
				t.Fatalf("P6: there are %d leaves, want %d", n, all)
			}
			unmap(t, k, at(cut), own)
			want := cut + 1
			if own {
				want = cut
			}
			if n := len(allLeaves(k)); n != want {
				t.Errorf("P9: after Unmap at %d there are %d leaves, want %d", cut, n, want)
			}
			for _, l := range allLeaves(k) {
				if n := l.Page*api.MaxSpaces + l.Space; n >= want || l.Frame != 5 || l.Rights != 3 {
					t.Errorf("P9: after Unmap at %d there is %+v", cut, l)
				}
			}
		}
	}
}

// One leaf is lent into every other page.
func TestManyChildrenOfOneLeaf(t *testing.T) {
	for _, own := range []bool{false, true} {
		c := lenders()
		c.Leaves = c.Leaves[:1]
		k := boot(t, c)
		for thread := range api.MaxSpaces {
			for n := range api.Pages {
				if thread == 0 {
					lend(t, k, page{0, 0}, 3, page{3, max(n, 1)}, true)
				} else {
					lend(t, k, page{0, 0}, 3, page{thread, n}, true)
				}
			}
		}
		if n := len(allLeaves(k)); n != api.MaxSpaces*api.Pages {
			t.Errorf("P6: there are %d leaves", n)
		}
		unmap(t, k, page{3, 0}, own)
		if own {
			wantLeaves(t, k)
		} else {
			wantLeaves(t, k, c.Leaves...)
		}
	}
}

// Time, and those who wait, come and go: what was lent stays.
func TestWhatWasLentStays(t *testing.T) {
	k := lentOn(t)
	want := allLeaves(k)
	ticks(k, 20)
	turn(t, k, 1)
	wantCode(t, "P9: Drop", k.Drop(2), api.OK)
	turn(t, k, 0)
	wantCode(t, "P9: Drop", k.Drop(1), api.OK)
	ipc(t, k, 0, during(3, receive(-1)))
	ticks(k, 5)
	wantLeaves(t, k, want...)
	// the pass is gone, but what was lent by it can be taken back
	unmap(t, k, page{0, 0}, false)
	wantLeaves(t, k, atFirst()...)
}
