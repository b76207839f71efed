package embassy_test

import (
	"testing"

	"embassy/api"
)

func TestStoredThroughOneLeafLoadedThroughAnother(t *testing.T) {
	k := lentOn(t)
	pages := []page{{0, 0}, {1, 4}, {2, 3}, {3, 5}}
	for at, from := range pages {
		for cell := range api.Cells {
			n := int64(100*at + cell + 1)
			turn(t, k, from.thread)
			wantStore(t, k, from.page, cell, n, api.OK)
			for _, to := range pages {
				turn(t, k, to.thread)
				wantLoad(t, k, to.page, cell, n, api.OK)
			}
		}
	}
}

// A leaf with Read alone, and one with Write alone, of one that has both.
func TestLentLeavesHaveTheirOwnRights(t *testing.T) {
	k := boot(t, lenders())
	wantStore(t, k, 0, 2, 50, api.OK)
	lend(t, k, page{0, 0}, api.Read, page{1, 4}, true)
	lend(t, k, page{0, 0}, api.Write, page{2, 3}, true)
	turn(t, k, 1)
	wantLoad(t, k, 4, 2, 50, api.OK)
	wantStore(t, k, 4, 2, 51, api.ErrFault)
	turn(t, k, 2)
	wantLoad(t, k, 3, 2, 0, api.ErrFault)
	wantStore(t, k, 3, 2, 52, api.OK)
	turn(t, k, 1)
	wantLoad(t, k, 4, 2, 52, api.OK)
	turn(t, k, 0)
	wantLoad(t, k, 0, 2, 52, api.OK)
	wantLoad(t, k, 0, 1, 0, api.OK)
}

// Who has no leaf any more loads and stores nothing; the numbers stay in the frame for those who have one.
func TestMemoryThatWasTakenBack(t *testing.T) {
	k := lentOn(t)
	turn(t, k, 2)
	wantStore(t, k, 3, 1, 60, api.OK)
	unmap(t, k, page{1, 4}, false)
	turn(t, k, 2)
	wantLoad(t, k, 3, 1, 0, api.ErrFault)
	wantStore(t, k, 3, 1, 61, api.ErrFault)
	turn(t, k, 1)
	wantLoad(t, k, 4, 1, 60, api.OK)
	wantStore(t, k, 4, 1, 62, api.OK)
	lend(t, k, page{1, 4}, 1, page{2, 0}, true)
	turn(t, k, 2)
	wantLoad(t, k, 0, 1, 62, api.OK)
}

// The number stays when the leaf is gone by which it came, for one who had the frame at first.
func TestLentAndFirstLeavesOfOneFrame(t *testing.T) {
	c := lenders()
	c.Leaves = append(c.Leaves, leaf(2, 5, 5, 3))
	k := boot(t, c)
	lend(t, k, page{0, 0}, 3, page{1, 0}, true)
	turn(t, k, 1)
	wantStore(t, k, 0, 0, 70, api.OK)
	unmap(t, k, page{0, 0}, true)
	wantLeaves(t, k, append(atFirst()[1:], leaf(2, 5, 5, 3))...)
	turn(t, k, 2)
	wantLoad(t, k, 5, 0, 70, api.OK)
	lend(t, k, page{2, 5}, 1, page{0, 0}, true)
	turn(t, k, 0)
	wantLoad(t, k, 0, 0, 70, api.OK)
}
