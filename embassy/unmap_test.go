package embassy_test

import (
	"testing"

	"embassy/api"
)

func TestUnmapOfEveryPage(t *testing.T) {
	for _, own := range []bool{false, true} {
		for rights := 1; rights <= 3; rights++ {
			for page := range api.Pages {
				c := paged(rights, rights, rights, rights, rights, rights)
				k := boot(t, c)
				wantCode(t, "P9: Unmap", k.Unmap(page, own), api.OK)
				if own {
					c.Leaves = append(c.Leaves[:page:page], c.Leaves[page+1:]...)
				}
				wantSame(t, "P9, P10", tell(k), tell(boot(t, c)))
			}
		}
	}
}

// The numbers are those of odd, without 2 and 3: there are leaves in these two pages.
func TestUnmapOfNoLeaf(t *testing.T) {
	k := boot(t, paged(0, 0, 3, 1))
	want := tell(k)
	for _, page := range odd {
		if page == 2 || page == 3 {
			continue
		}
		code := api.ErrArg
		if 0 <= page && page < api.Pages {
			code = api.ErrPage
		}
		for _, own := range []bool{false, true} {
			wantCode(t, "P9: Unmap", k.Unmap(page, own), code)
			wantSame(t, "P1", tell(k), want)
		}
	}
}

func TestUnmapTwice(t *testing.T) {
	k := boot(t, paged(3, 3))
	wantCode(t, "P9: Unmap", k.Unmap(0, false), api.OK)
	wantCode(t, "P9: Unmap", k.Unmap(0, false), api.OK)
	wantCode(t, "P9: Unmap", k.Unmap(0, true), api.OK)
	wantCode(t, "P9: Unmap", k.Unmap(0, true), api.ErrPage)
	wantCode(t, "P9: Unmap", k.Unmap(0, false), api.ErrPage)
	wantLoad(t, k, 0, 0, 0, api.ErrFault)
	wantStore(t, k, 0, 0, 1, api.ErrFault)
	wantStore(t, k, 1, 0, 1, api.OK)
}

// Leaves that were there at first are nobody's children, though they have one frame.
func TestUnmapLeavesOthersOfTheFrame(t *testing.T) {
	k := boot(t, shared())
	wantStore(t, k, 0, 3, 21, api.OK)
	wantCode(t, "P9: Unmap", k.Unmap(0, true), api.OK)
	wantLoad(t, k, 0, 3, 0, api.ErrFault)
	wantLoad(t, k, 5, 3, 21, api.OK)
	k.Yield()
	wantLoad(t, k, 5, 3, 21, api.OK)
	c := shared()
	c.Leaves = c.Leaves[1:]
	k.Yield()
	wantSame(t, "P9, P10", tell(k), tell(boot(t, c)))
}

func TestUnmapIsInTheSpaceOfTheCurrentThread(t *testing.T) {
	k := boot(t, shared())
	k.Yield()
	wantCode(t, "P9: Unmap", k.Unmap(0, true), api.ErrPage)
	wantCode(t, "P9: Unmap", k.Unmap(1, true), api.OK)
	c := shared()
	c.Leaves = c.Leaves[:4]
	k.Yield()
	wantSame(t, "P9, P10", tell(k), tell(boot(t, c)))
}
