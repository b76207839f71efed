package embassy_test

import (
	"math"
	"reflect"
	"testing"

	"embassy/api"
	"embassy/embassy"
)

// odd holds numbers at and around all bounds, and far out of range.
var odd = []int{math.MinInt, math.MinInt + 1, math.MinInt32, -1000, -3, -2, -1, 0, 1, 2, 3, 4, 5, 6, 7, 8, 9, 64, 1000, math.MaxInt32, math.MaxInt - 1, math.MaxInt}

func boot(t *testing.T, c api.Config) *embassy.Kernel {
	t.Helper()
	k, e := embassy.New(c)
	if k == nil || e != api.OK {
		t.Fatalf("P3: New(%+v) = %v, %d", c, k, e)
	}
	return k
}

// inRows gives a configuration with one space, and threads in rows.
func inRows(rows ...int) api.Config {
	c := api.Config{Spaces: 1}
	for _, r := range rows {
		c.Threads = append(c.Threads, api.Place{Row: r})
	}
	return c
}

// crowded gives a configuration with all that there may be, in falling order of slots and pages.
func crowded() api.Config {
	c := api.Config{Spaces: api.MaxSpaces}
	for n := range api.MaxThreads {
		c.Threads = append(c.Threads, api.Place{Space: n % api.MaxSpaces, Row: n % api.Rows})
	}
	for s := range api.MaxSpaces {
		for n := api.Slots - 1; n >= 0; n-- {
			c.Passes = append(c.Passes, api.Pass{Space: s, Slot: n, Thread: (s + n) % api.MaxThreads, Rights: 1 + n%3})
		}
		for n := api.Pages - 1; n >= 0; n-- {
			c.Leaves = append(c.Leaves, api.Leaf{Space: s, Page: n, Frame: (s + n) % api.Frames, Rights: 1 + n%3})
		}
	}
	return c
}

// report is all that a kernel tells of itself.
type report struct {
	Current int
	Threads []api.Thread
	Spaces  []api.Space
}

func tell(k *embassy.Kernel) report {
	r := report{Current: k.Current()}
	for n := 0; ; n++ {
		x, e := k.Look(n)
		if e != api.OK {
			break
		}
		r.Threads = append(r.Threads, x)
	}
	for n := 0; ; n++ {
		x, e := k.Space(n)
		if e != api.OK {
			break
		}
		r.Spaces = append(r.Spaces, x)
	}
	return r
}

func wantSame(t *testing.T, promise string, got, want report) {
	t.Helper()
	if !reflect.DeepEqual(got, want) {
		t.Errorf("%s: the kernel tells %+v, want %+v", promise, got, want)
	}
}

func wantCurrent(t *testing.T, k *embassy.Kernel, want int) {
	t.Helper()
	if n := k.Current(); n != want {
		t.Errorf("P3, P7: Current = %d, want %d", n, want)
	}
}
