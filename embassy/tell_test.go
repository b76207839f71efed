package embassy_test

import (
	"reflect"
	"slices"
	"testing"

	"embassy/api"
	"embassy/embassy"
)

// fresh is what Look tells of a thread that has not sent or received.
var fresh = api.Thread{State: api.Ready, Code: api.OK, From: -1, Got: -1}

func TestLookAtEveryNumber(t *testing.T) {
	for threads := 1; threads <= api.MaxThreads; threads++ {
		k := boot(t, api.Config{Spaces: 1, Threads: make([]api.Place, threads)})
		for _, n := range odd {
			want, code := api.Thread{}, api.ErrArg
			if 0 <= n && n < threads {
				want, code = fresh, api.OK
			}
			if x, e := k.Look(n); e != code || !reflect.DeepEqual(x, want) {
				t.Errorf("P10: of %d threads Look(%d) = %+v, %d, want %+v, %d", threads, n, x, e, want, code)
			}
		}
	}
}

func TestSpaceAtEveryNumber(t *testing.T) {
	for spaces := 1; spaces <= api.MaxSpaces; spaces++ {
		k := boot(t, api.Config{Spaces: spaces, Threads: []api.Place{{}}})
		for _, n := range odd {
			code := api.ErrArg
			if 0 <= n && n < spaces {
				code = api.OK
			}
			if x, e := k.Space(n); e != code || len(x.Passes) != 0 || len(x.Leaves) != 0 {
				t.Errorf("P10: of %d spaces Space(%d) = %+v, %d, want %d", spaces, n, x, e, code)
			}
		}
	}
}

func TestSpacesTellWhatTheyHave(t *testing.T) {
	c := crowded()
	slices.Reverse(c.Leaves)
	c.Passes = slices.Delete(c.Passes, 3, 9)
	c.Leaves = slices.Delete(c.Leaves, 5, 7)
	wantSpaces(t, boot(t, c), c)
}

// wantSpaces asks that the spaces of k have the passes and leaves of c.
func wantSpaces(t *testing.T, k *embassy.Kernel, c api.Config) {
	t.Helper()
	for s := range c.Spaces {
		x, e := k.Space(s)
		if e != api.OK {
			t.Errorf("P10: Space(%d) = %d", s, e)
		}
		if want := passesOf(c, s); !slices.Equal(x.Passes, want) {
			t.Errorf("P10: Space(%d).Passes = %+v, want %+v", s, x.Passes, want)
		}
		if want := leavesOf(c, s); !slices.Equal(x.Leaves, want) {
			t.Errorf("P10: Space(%d).Leaves = %+v, want %+v", s, x.Leaves, want)
		}
	}
}

func passesOf(c api.Config, space int) []api.Pass {
	list := slices.DeleteFunc(slices.Clone(c.Passes), func(p api.Pass) bool { return p.Space != space })
	slices.SortFunc(list, func(a, b api.Pass) int { return a.Slot - b.Slot })
	return list
}

func leavesOf(c api.Config, space int) []api.Leaf {
	list := slices.DeleteFunc(slices.Clone(c.Leaves), func(l api.Leaf) bool { return l.Space != space })
	slices.SortFunc(list, func(a, b api.Leaf) int { return a.Page - b.Page })
	return list
}

func TestTimeChangesNothingButWhoIsCurrent(t *testing.T) {
	k := boot(t, crowded())
	want := tell(k)
	for n := range 50 {
		k.Tick()
		if n%3 == 0 {
			k.Yield()
		}
		got := tell(k)
		got.Current = want.Current
		wantSame(t, "P7, P10", got, want)
	}
}

func TestTellingChangesNothing(t *testing.T) {
	asked, quiet := boot(t, inRows(1, 1, 1)), boot(t, inRows(1, 1, 1))
	for range 30 {
		askAll(asked)
		wantCurrent(t, asked, quiet.Current())
		asked.Tick()
		quiet.Tick()
	}
}

func askAll(k *embassy.Kernel) {
	for _, n := range odd {
		k.Look(n)
		k.Space(n)
	}
}
