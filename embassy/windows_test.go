package embassy_test

import (
	"testing"

	"embassy/api"
	"embassy/embassy"
)

// unmap takes back what was lent of a page, which must have a leaf.
func unmap(t *testing.T, k *embassy.Kernel, p page, own bool) {
	t.Helper()
	turn(t, k, p.thread)
	wantCode(t, "P9: Unmap", k.Unmap(p.page, own), api.OK)
}

// What comes into a window is of its new parent, and of the old one no longer.
func TestAWindowThatHasALeaf(t *testing.T) {
	for _, ahead := range []bool{false, true} {
		k := boot(t, lenders())
		lend(t, k, page{0, 0}, 3, page{1, 4}, true)
		lendInOrder(t, k, ahead, page{0, 1}, 3, page{1, 4}, true)
		wantLeaves(t, k, atFirst(leaf(1, 4, 6, 1))...)
		unmap(t, k, page{0, 0}, true)
		wantLeaves(t, k, atFirst(leaf(1, 4, 6, 1))[1:]...)
		unmap(t, k, page{0, 1}, false)
		wantLeaves(t, k, atFirst()[1:]...)
	}
}

// A leaf that was there at first goes like any other one; others with its frame stay.
func TestAWindowThatHadALeafAtFirst(t *testing.T) {
	c := lenders()
	c.Leaves = atFirst(leaf(1, 0, 0, 3), leaf(1, 1, 0, 3))
	k := boot(t, c)
	lend(t, k, page{1, 0}, 3, page{2, 0}, true)
	lend(t, k, page{1, 1}, 3, page{2, 1}, true)
	lend(t, k, page{0, 0}, 2, page{1, 0}, true)
	wantLeaves(t, k, atFirst(leaf(1, 0, 5, 2), leaf(1, 1, 0, 3), leaf(2, 1, 0, 3))...)
	unmap(t, k, page{0, 0}, false)
	wantLeaves(t, k, atFirst(leaf(1, 1, 0, 3), leaf(2, 1, 0, 3))...)
}

func TestAWindowWithChildren(t *testing.T) {
	for _, x := range []struct {
		window page
		want   []api.Leaf
	}{
		{page{1, 4}, atFirst(leaf(1, 4, 6, 1))},
		{page{2, 3}, atFirst(leaf(1, 4, 5, 3), leaf(2, 3, 6, 1))},
		{page{3, 5}, atFirst(leaf(0, 5, 6, 1), leaf(1, 4, 5, 3), leaf(2, 3, 5, 3))},
		{page{3, 0}, append([]api.Leaf{leaf(0, 0, 6, 1)}, atFirst()[1:]...)},
	} {
		for _, ahead := range []bool{false, true} {
			k := lentOn(t)
			lendInOrder(t, k, ahead, page{0, 1}, 1, x.window, true)
			wantLeaves(t, k, x.want...)
		}
	}
}

// What is in the window is gone all the same if nothing comes: no leaf is in the page, no right in both, or none is asked for.
func TestAWindowIntoWhichNothingComes(t *testing.T) {
	for _, x := range []struct{ item, rights int }{{4, 3}, {3, 0}, {1, 2}, {2, 1}, {0, 0}} {
		for _, ahead := range []bool{false, true} {
			k := lentOn(t)
			lendInOrder(t, k, ahead, page{0, x.item}, x.rights, page{1, 4}, false)
			wantLeaves(t, k, atFirst()...)
		}
	}
}

// Thread 0 lends thread 3, of its own space, a page in that page itself.
func TestAWindowThatIsTheItem(t *testing.T) {
	for rights := range 4 {
		for _, ahead := range []bool{false, true} {
			k := lentOn(t)
			lendInOrder(t, k, ahead, page{0, 0}, rights, page{3, 0}, false)
			wantLeaves(t, k, atFirst()[1:]...)
			k = lentOn(t)
			lendInOrder(t, k, ahead, page{0, 5}, rights, page{3, 5}, false)
			wantLeaves(t, k, atFirst(leaf(1, 4, 5, 3), leaf(2, 3, 5, 3))...)
		}
	}
}

// A leaf is lent back into the page of its parent, or of one of the parents before.
func TestAWindowThatIsTheParent(t *testing.T) {
	for _, x := range []struct {
		item, window page
		want         []api.Leaf
	}{
		{page{1, 4}, page{0, 0}, atFirst()[1:]},
		{page{2, 3}, page{0, 0}, atFirst()[1:]},
		{page{3, 5}, page{0, 0}, atFirst()[1:]},
		{page{2, 3}, page{1, 4}, atFirst()},
		{page{3, 5}, page{1, 4}, atFirst()},
		{page{3, 5}, page{2, 3}, atFirst(leaf(1, 4, 5, 3))},
	} {
		for _, ahead := range []bool{false, true} {
			k := lentOn(t)
			lendInOrder(t, k, ahead, x.item, 3, x.window, false)
			wantLeaves(t, k, x.want...)
			// the pages can be used as before
			lend(t, k, page{3, 1}, 3, x.window, true)
			lend(t, k, x.window, 3, x.item, true)
		}
	}
}

// A leaf is lent into a page that has one of its children: that one goes, with its own children.
func TestAWindowThatIsAChild(t *testing.T) {
	for _, x := range []struct {
		window page
		want   []api.Leaf
	}{
		{page{1, 4}, atFirst(leaf(1, 4, 5, 1))},
		{page{2, 3}, atFirst(leaf(1, 4, 5, 3), leaf(2, 3, 5, 1))},
		{page{3, 5}, atFirst(leaf(0, 5, 5, 1), leaf(1, 4, 5, 3), leaf(2, 3, 5, 3))},
	} {
		for _, ahead := range []bool{false, true} {
			k := lentOn(t)
			lendInOrder(t, k, ahead, page{0, 0}, 1, x.window, true)
			wantLeaves(t, k, x.want...)
			unmap(t, k, page{0, 0}, false)
			wantLeaves(t, k, atFirst()...)
		}
	}
}

// What was a grandchild is a child now: the one in the middle cannot take it back any more.
func TestAGrandchildThatBecomesAChild(t *testing.T) {
	k := lentOn(t)
	lend(t, k, page{0, 0}, 3, page{2, 3}, true)
	unmap(t, k, page{1, 4}, true)
	wantLeaves(t, k, atFirst(leaf(2, 3, 5, 3))...)
	unmap(t, k, page{0, 0}, false)
	wantLeaves(t, k, atFirst()...)
}

// Two were lent of one leaf: a window with one of them leaves the other one.
func TestAWindowThatIsASibling(t *testing.T) {
	k := boot(t, lenders())
	lend(t, k, page{0, 0}, 3, page{1, 4}, true)
	lend(t, k, page{0, 0}, 3, page{2, 3}, true)
	lend(t, k, page{2, 3}, 1, page{1, 4}, true)
	wantLeaves(t, k, atFirst(leaf(1, 4, 5, 1), leaf(2, 3, 5, 3))...)
	unmap(t, k, page{2, 3}, false)
	wantLeaves(t, k, atFirst(leaf(2, 3, 5, 3))...)
}
