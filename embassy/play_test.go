package embassy_test

import (
	"math/rand"
	"slices"
	"testing"

	"embassy/api"
	"embassy/embassy"
)

// plain plays memory and passes in another way: by lists of what there is, with the document's own words for the errors.
type plain struct {
	who    func() int // the current thread
	c      api.Config
	memory map[[2]int]int64 // by frame and cell
	above  map[spot][]spot  // of a leaf that was lent: where its parent is, and the parent of that, up to one that was there at first
}

type spot struct{ space, page int }

func where(l api.Leaf) spot { return spot{l.Space, l.Page} }

func newPlain(who func() int, c api.Config) plain {
	return plain{who: who, c: cloned(c), memory: map[[2]int]int64{}, above: map[spot][]spot{}}
}

func (p *plain) home() int { return p.c.Threads[p.who()].Space }

func (p *plain) findLeaf(there spot) int {
	for n, l := range p.c.Leaves {
		if where(l) == there {
			return n
		}
	}
	return -1
}

func (p *plain) findPass(slot int) int {
	for n, x := range p.c.Passes {
		if x.Space == p.home() && x.Slot == slot {
			return n
		}
	}
	return -1
}

// reach finds the place of a cell, for one who needs a right.
func (p *plain) reach(page, cell, right int) ([2]int, api.Errno) {
	if page < 0 || page >= 6 || cell < 0 || cell >= 4 {
		return [2]int{}, api.ErrArg
	}
	n := p.findLeaf(spot{p.home(), page})
	if n < 0 || p.c.Leaves[n].Rights != right && p.c.Leaves[n].Rights != 3 {
		return [2]int{}, api.ErrFault
	}
	return [2]int{p.c.Leaves[n].Frame, cell}, api.OK
}

func (p *plain) load(page, cell int) (int64, api.Errno) {
	at, e := p.reach(page, cell, 1)
	if e != api.OK {
		return 0, e
	}
	return p.memory[at], api.OK
}

func (p *plain) store(page, cell int, n int64) api.Errno {
	at, e := p.reach(page, cell, 2)
	if e == api.OK {
		p.memory[at] = n
	}
	return e
}

func (p *plain) unmap(page int, own bool) api.Errno {
	if page < 0 || page >= 6 {
		return api.ErrArg
	}
	if p.findLeaf(spot{p.home(), page}) < 0 {
		return api.ErrPage
	}
	p.clear(spot{p.home(), page}, own)
	return api.OK
}

// clear throws away all leaves below the one that is there, and that one too, if own.
func (p *plain) clear(there spot, own bool) {
	p.c.Leaves = slices.DeleteFunc(p.c.Leaves, func(l api.Leaf) bool {
		return own && where(l) == there || slices.Contains(p.above[where(l)], there)
	})
}

// give lends a leaf, and tells if one came.
func (p *plain) give(item spot, rights int, window spot) bool {
	p.clear(window, true)
	n := p.findLeaf(item)
	if n < 0 {
		return false
	}
	l := p.c.Leaves[n]
	switch {
	case rights == 0 || l.Rights+rights == 3:
		return false
	case rights != 3:
		l.Rights = rights
	}
	l.Space, l.Page = window.space, window.page
	p.c.Leaves = append(p.c.Leaves, l)
	p.above[window] = append([]spot{item}, p.above[item]...)
	return true
}

func (p *plain) derive(slot, to, rights int) api.Errno {
	if slot < 0 || slot >= 6 || to < 0 || to >= 6 || rights < 1 || rights > 3 {
		return api.ErrArg
	}
	n := p.findPass(slot)
	if n < 0 || p.c.Passes[n].Rights != rights && p.c.Passes[n].Rights != 3 {
		return api.ErrPass
	}
	x := api.Pass{Space: p.home(), Slot: to, Thread: p.c.Passes[n].Thread, Rights: rights}
	p.drop(to)
	p.c.Passes = append(p.c.Passes, x)
	return api.OK
}

func (p *plain) drop(slot int) api.Errno {
	if slot < 0 || slot >= 6 {
		return api.ErrArg
	}
	n := p.findPass(slot)
	if n < 0 {
		return api.ErrPass
	}
	p.c.Passes = append(p.c.Passes[:n], p.c.Passes[n+1:]...)
	return api.OK
}

// mixed gives a configuration by chance: every slot and page has something or not.
func mixed(r *rand.Rand) api.Config {
	c := api.Config{Spaces: 1 + r.Intn(api.MaxSpaces)}
	for range 1 + r.Intn(api.MaxThreads) {
		c.Threads = append(c.Threads, api.Place{Space: r.Intn(c.Spaces), Row: 1})
	}
	for s := range c.Spaces {
		for n := range api.Slots {
			if r.Intn(2) == 0 {
				c.Passes = append(c.Passes, api.Pass{Space: s, Slot: n, Thread: r.Intn(len(c.Threads)), Rights: 1 + r.Intn(3)})
			}
		}
		for n := range api.Pages {
			if r.Intn(3) != 0 {
				c.Leaves = append(c.Leaves, api.Leaf{Space: s, Page: n, Frame: r.Intn(api.Frames), Rights: 1 + r.Intn(3)})
			}
		}
	}
	return c
}

// use makes one call by chance on both, and tells what it was and what each answered.
func (p *plain) use(k *embassy.Kernel, r *rand.Rand) (what string, got, want [2]int64) {
	a, b := r.Intn(8)-1, r.Intn(8)-1
	n, own := r.Int63()-r.Int63(), r.Intn(5) == 0
	both := func(name string, e, f api.Errno) (string, [2]int64, [2]int64) {
		return name, [2]int64{int64(e)}, [2]int64{int64(f)}
	}
	switch r.Intn(10) {
	case 0, 1, 2:
		x, e := k.Load(a, b%5)
		y, f := p.load(a, b%5)
		return "Load", [2]int64{int64(e), x}, [2]int64{int64(f), y}
	case 3, 4, 5:
		return both("Store", k.Store(a, b%5, n), p.store(a, b%5, n))
	case 6:
		return both("Unmap", k.Unmap(a, own), p.unmap(a, own))
	case 7, 8:
		rights := r.Intn(5)
		return both("Derive", k.Derive(a, b, rights), p.derive(a, b, rights))
	default:
		return both("Drop", k.Drop(a), p.drop(a))
	}
}

func TestManyCallsOnMemoryAndPasses(t *testing.T) {
	r := rand.New(rand.NewSource(2))
	for round := range 200 {
		c := mixed(r)
		k := boot(t, c)
		p := newPlain(k.Current, c)
		for step := range 100 {
			switch r.Intn(12) {
			case 0:
				k.Tick()
			case 1:
				k.Yield()
			}
			what, got, want := p.use(k, r)
			if got != want {
				t.Fatalf("P8, P9: round %d, step %d: %s = %d, want %d", round, step, what, got, want)
			}
			wantSpaces(t, k, p.c)
			if t.Failed() {
				t.Fatalf("round %d, step %d: after %s", round, step, what)
			}
		}
	}
}
