package core

import (
	"math/rand"
	"testing"

	"embassy/api"
)

// family gives a machine in which all threads may lend to all, and each space has some pages to begin with.
func family(t *testing.T) Machine {
	t.Helper()
	c := api.Config{Spaces: api.MaxSpaces}
	for n := range api.MaxThreads {
		c.Threads = append(c.Threads, api.Place{Space: n % c.Spaces})
		for s := range c.Spaces {
			c.Passes = append(c.Passes, api.Pass{Space: s, Slot: n, Thread: n, Rights: 3})
		}
		c.Leaves = append(c.Leaves, api.Leaf{Space: n % c.Spaces, Page: n, Frame: n, Rights: 1 + n%3})
	}
	m, err := New(c)
	if err != nil {
		t.Fatal(err)
	}
	return m
}

// goOnLending makes a call by chance, most often one that lends.
func goOnLending(m *Machine, r *rand.Rand) {
	page := func() int { return r.Intn(api.Pages) }
	from := []int{noOne, whoever}[r.Intn(2)]
	switch r.Intn(10) {
	case 0:
		m.Tick()
	case 1:
		m.Unmap(page(), r.Intn(3) == 0)
	case 2, 3, 4:
		m.Ipc(api.Message{To: noSlot, Item: nothing, From: whoever, Window: page(), Wait: 5})
	default:
		m.Ipc(api.Message{To: r.Intn(api.Slots), Item: page(), Rights: r.Intn(4), From: from, Window: page(), Wait: 5})
	}
}

// wantFamily asks of a leaf that its parent is one of the leaves that there are, with no fewer rights, and that none is its own parent, over however many.
func wantFamily(t *testing.T, m *Machine, l *leaf) {
	t.Helper()
	if l.rights == 0 && *l != (leaf{}) {
		t.Errorf("P9: of a leaf that is gone %+v is kept", *l)
	}
	for range api.MaxSpaces * api.Pages {
		up := l.parent
		if up == nil {
			return
		}
		if !m.has(up) || up.frame != l.frame || !holds(up.rights, l.rights) {
			t.Errorf("P11: %+v was lent from %+v", *l, *up)
		}
		l = up
	}
	t.Errorf("P6: %+v is its own parent", *l)
}

// has tells if l is a page of one of the spaces, and not an empty one.
func (m *Machine) has(l *leaf) bool {
	for s := range m.spaces {
		for n := range m.spaces[s].pages {
			if l == &m.spaces[s].pages[n] {
				return l.rights != 0
			}
		}
	}
	return false
}

func TestLeavesHaveTheirParents(t *testing.T) {
	r := rand.New(rand.NewSource(1))
	lent := 0
	for range 300 {
		m := family(t)
		for range 100 {
			goOnLending(&m, r)
			for s := range m.spaces {
				for n := range m.spaces[s].pages {
					l := &m.spaces[s].pages[n]
					wantFamily(t, &m, l)
					if l.parent != nil {
						lent++
					}
				}
			}
		}
	}
	if lent < 10000 {
		t.Errorf("there were only %d leaves that were lent", lent)
	}
}
