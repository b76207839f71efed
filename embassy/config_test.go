package embassy_test

import (
	"testing"

	"embassy/api"
	"embassy/embassy"
)

// wantNew asks that New takes c, or that it denies it.
func wantNew(t *testing.T, name string, c api.Config, takes bool) {
	t.Helper()
	k, e := embassy.New(c)
	if takes && (k == nil || e != api.OK) {
		t.Errorf("P3: %s: New = %v, %d, want a kernel", name, k, e)
	}
	if !takes && (k != nil || e != api.ErrConfig) {
		t.Errorf("P3, P1: %s: New = %v, %d, want none and ErrConfig", name, k, e)
	}
}

// small gives a configuration with one of each kind, with room around each number.
func small() api.Config {
	return api.Config{
		Spaces:  2,
		Threads: []api.Place{{Space: 0, Row: 0}, {Space: 1, Row: 1}, {Space: 1, Row: 1}},
		Passes:  []api.Pass{{Space: 0, Slot: 0, Thread: 0, Rights: 1}},
		Leaves:  []api.Leaf{{Space: 0, Page: 0, Frame: 0, Rights: 1}},
	}
}

func TestEveryNumberOfAConfiguration(t *testing.T) {
	for _, field := range []struct {
		name        string
		least, most int
		set         func(c *api.Config, n int)
	}{
		{"a thread's space", 0, 1, func(c *api.Config, n int) { c.Threads[2].Space = n }},
		{"a thread's row", 0, api.Rows - 1, func(c *api.Config, n int) { c.Threads[2].Row = n }},
		{"a pass's space", 0, 1, func(c *api.Config, n int) { c.Passes[0].Space = n }},
		{"a pass's slot", 0, api.Slots - 1, func(c *api.Config, n int) { c.Passes[0].Slot = n }},
		{"a pass's thread", 0, 2, func(c *api.Config, n int) { c.Passes[0].Thread = n }},
		{"a pass's rights", 1, 3, func(c *api.Config, n int) { c.Passes[0].Rights = n }},
		{"a leaf's space", 0, 1, func(c *api.Config, n int) { c.Leaves[0].Space = n }},
		{"a leaf's page", 0, api.Pages - 1, func(c *api.Config, n int) { c.Leaves[0].Page = n }},
		{"a leaf's frame", 0, api.Frames - 1, func(c *api.Config, n int) { c.Leaves[0].Frame = n }},
		{"a leaf's rights", 1, 3, func(c *api.Config, n int) { c.Leaves[0].Rights = n }},
	} {
		for _, n := range odd {
			c := small()
			field.set(&c, n)
			wantNew(t, field.name, c, field.least <= n && n <= field.most)
		}
	}
}

func TestHowManySpaces(t *testing.T) {
	for _, n := range odd {
		wantNew(t, "spaces", api.Config{Spaces: n, Threads: []api.Place{{}}}, 1 <= n && n <= api.MaxSpaces)
	}
	for spaces := 1; spaces <= api.MaxSpaces; spaces++ {
		c := api.Config{Spaces: spaces, Threads: []api.Place{{}}}
		c.Threads[0].Space = spaces - 1
		wantNew(t, "in the last space", c, true)
		c.Threads[0].Space = spaces
		wantNew(t, "behind the last space", c, false)
	}
}

func TestHowManyThreads(t *testing.T) {
	for n := range 3 * api.MaxThreads {
		c := api.Config{Spaces: 1, Threads: make([]api.Place, n)}
		wantNew(t, "threads", c, 1 <= n && n <= api.MaxThreads)
	}
	wantNew(t, "nil threads", api.Config{Spaces: 1}, false)
	wantNew(t, "nothing at all", api.Config{}, false)
	wantNew(t, "very many threads", api.Config{Spaces: 1, Threads: make([]api.Place, 1_000_000)}, false)
	for n := 1; n <= api.MaxThreads; n++ {
		c := api.Config{Spaces: 1, Threads: make([]api.Place, n), Passes: []api.Pass{{Thread: n - 1, Rights: 1}}}
		wantNew(t, "a pass for the last thread", c, true)
		c.Passes[0].Thread = n
		wantNew(t, "a pass for one behind the last thread", c, false)
	}
}

func TestTwoInOneSlotOrPage(t *testing.T) {
	for _, x := range []struct {
		name  string
		add   func(c *api.Config)
		takes bool
	}{
		{"the same pass twice", func(c *api.Config) { c.Passes = append(c.Passes, c.Passes[0]) }, false},
		{"another pass in the slot", func(c *api.Config) { c.Passes = append(c.Passes, api.Pass{Thread: 2, Rights: 2}) }, false},
		{"the same slot of another space", func(c *api.Config) { c.Passes = append(c.Passes, api.Pass{Space: 1, Rights: 1}) }, true},
		{"the same thread in another slot", func(c *api.Config) { c.Passes = append(c.Passes, api.Pass{Slot: 5, Rights: 1}) }, true},
		{"two in a slot, with another between", func(c *api.Config) {
			c.Passes = append(c.Passes, api.Pass{Slot: 5, Rights: 1}, api.Pass{Rights: 3})
		}, false},
		{"the same leaf twice", func(c *api.Config) { c.Leaves = append(c.Leaves, c.Leaves[0]) }, false},
		{"another leaf in the page", func(c *api.Config) { c.Leaves = append(c.Leaves, api.Leaf{Frame: 7, Rights: 2}) }, false},
		{"the same page of another space", func(c *api.Config) { c.Leaves = append(c.Leaves, api.Leaf{Space: 1, Rights: 1}) }, true},
		{"the same frame in another page", func(c *api.Config) { c.Leaves = append(c.Leaves, api.Leaf{Page: 5, Rights: 1}) }, true},
		{"two in a page, with another between", func(c *api.Config) {
			c.Leaves = append(c.Leaves, api.Leaf{Page: 5, Rights: 1}, api.Leaf{Rights: 3})
		}, false},
	} {
		c := small()
		x.add(&c)
		wantNew(t, x.name, c, x.takes)
	}
}

func TestAllThatThereMayBe(t *testing.T) {
	wantNew(t, "crowded", crowded(), true)
	for s := range api.MaxSpaces {
		for n := range api.Slots {
			c := crowded()
			c.Passes = append(c.Passes, api.Pass{Space: s, Slot: n, Rights: 1})
			wantNew(t, "one pass more", c, false)
		}
		for n := range api.Pages {
			c := crowded()
			c.Leaves = append(c.Leaves, api.Leaf{Space: s, Page: n, Rights: 1})
			wantNew(t, "one leaf more", c, false)
		}
	}
	c := small()
	c.Passes = make([]api.Pass, 1_000_000)
	wantNew(t, "very many passes", c, false)
	c = small()
	c.Leaves = make([]api.Leaf, 1_000_000)
	wantNew(t, "very many leaves", c, false)
}

func TestNilAndEmptyListsAreOne(t *testing.T) {
	c := inRows(1)
	k := boot(t, c)
	c.Passes, c.Leaves = []api.Pass{}, []api.Leaf{}
	wantSame(t, "P1", tell(boot(t, c)), tell(k))
}

// A wrong one counts wherever it stands in its list.
func TestAWrongOneAmongOthers(t *testing.T) {
	for n := range api.MaxThreads {
		c := crowded()
		c.Threads[n].Row = api.Rows
		wantNew(t, "a wrong thread", c, false)
	}
	for n := range crowded().Passes {
		c := crowded()
		c.Passes[n].Rights = 4
		wantNew(t, "a wrong pass", c, false)
	}
	for n := range crowded().Leaves {
		c := crowded()
		c.Leaves[n].Frame = api.Frames
		wantNew(t, "a wrong leaf", c, false)
	}
}
