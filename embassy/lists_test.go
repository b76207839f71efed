package embassy_test

import (
	"reflect"
	"slices"
	"testing"

	"embassy/api"
	"embassy/embassy"
)

// roomy gives c with lists that have spare room, which is filled with fill.
func roomy(c api.Config, fill int) api.Config {
	c.Threads = withRoom(c.Threads, api.Place{Space: fill, Row: fill})
	c.Passes = withRoom(c.Passes, api.Pass{Space: fill, Slot: fill, Thread: fill, Rights: fill})
	c.Leaves = withRoom(c.Leaves, api.Leaf{Space: fill, Page: fill, Frame: fill, Rights: fill})
	return c
}

func withRoom[T any](list []T, fill T) []T {
	all := slices.Clone(list)
	for range 40 {
		all = append(all, fill)
	}
	return all[:len(list)]
}

// whole gives c with its lists up to the end of their spare room.
func whole(c api.Config) api.Config {
	c.Threads = c.Threads[:cap(c.Threads)]
	c.Passes = c.Passes[:cap(c.Passes)]
	c.Leaves = c.Leaves[:cap(c.Leaves)]
	return c
}

func cloned(c api.Config) api.Config {
	c.Threads = slices.Clone(c.Threads)
	c.Passes = slices.Clone(c.Passes)
	c.Leaves = slices.Clone(c.Leaves)
	return c
}

func writeOver[T any](list []T, x T) {
	all := list[:cap(list)]
	for n := range all {
		all[n] = x
	}
}

func TestNewWritesIntoNoList(t *testing.T) {
	wrong := crowded()
	wrong.Leaves[len(wrong.Leaves)-1].Rights = 0
	for _, c := range []api.Config{crowded(), small(), wrong} {
		c = roomy(c, 1)
		before := cloned(whole(c))
		k, _ := embassy.New(c)
		if k != nil {
			for range 20 {
				k.Tick()
				k.Yield()
			}
		}
		if !reflect.DeepEqual(whole(c), before) {
			t.Errorf("P2: New changed a list that was handed in: %+v, before %+v", whole(c), before)
		}
	}
}

func TestNewKeepsNoList(t *testing.T) {
	c := roomy(crowded(), 1)
	k, other := boot(t, c), boot(t, crowded())
	writeOver(c.Threads, api.Place{Space: 2, Row: 3})
	writeOver(c.Passes, api.Pass{Space: 9, Slot: 9, Thread: 9, Rights: 9})
	writeOver(c.Leaves, api.Leaf{Space: 9, Page: 9, Frame: 9, Rights: 9})
	for range 20 {
		wantSame(t, "P2", tell(k), tell(other))
		k.Tick()
		other.Tick()
	}
}

func TestWhatComesOutIsNotKept(t *testing.T) {
	k := boot(t, crowded())
	want := tell(boot(t, crowded()))
	for _, s := range tell(k).Spaces {
		writeOver(s.Passes, api.Pass{Space: -7, Slot: -7, Thread: -7, Rights: -7})
		writeOver(s.Leaves, api.Leaf{Space: -7, Page: -7, Frame: -7, Rights: -7})
	}
	for _, x := range tell(k).Threads {
		writeOver(x.Words, -7)
	}
	wantSame(t, "P2", tell(k), want)
}

// share tells if what is written into a, its spare room too, is to be seen in b or in b's spare room.
func share[T comparable](a, b []T, x T) bool {
	before := slices.Clone(b[:cap(b)])
	writeOver(a, x)
	return !slices.Equal(b[:cap(b)], before)
}

func TestTwoAnswersShareNoMemory(t *testing.T) {
	c := crowded()
	c.Passes, c.Leaves = c.Passes[:3], c.Leaves[:5]
	k := boot(t, c)
	a, _ := k.Space(0)
	b, _ := k.Space(0)
	pass, leaf := api.Pass{Space: -7}, api.Leaf{Space: -7}
	if share(a.Passes, b.Passes, pass) || share(b.Passes, c.Passes, pass) {
		t.Error("P2: the passes of two answers share memory")
	}
	if share(a.Leaves, b.Leaves, leaf) || share(b.Leaves, c.Leaves, leaf) {
		t.Error("P2: the leaves of two answers share memory")
	}
}

func TestKernelsDoNotChangeOneAnother(t *testing.T) {
	c := inRows(2, 2, 2)
	busy, quiet := boot(t, c), boot(t, c)
	want := tell(quiet)
	for range 10 {
		busy.Tick()
		busy.Yield()
		boot(t, crowded()).Tick()
		wantSame(t, "P2", tell(quiet), want)
	}
	for range api.Slice {
		wantCurrent(t, quiet, 0)
		quiet.Tick()
	}
	wantCurrent(t, quiet, 1)
}

func TestADeniedNewChangesNoKernel(t *testing.T) {
	k := boot(t, crowded())
	want := tell(k)
	for n := range odd {
		embassy.New(api.Config{Spaces: odd[n]})
	}
	wantSame(t, "P1", tell(k), want)
}
