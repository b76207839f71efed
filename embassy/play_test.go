package embassy_test

import (
	"math/rand"
	"testing"

	"embassy/api"
	"embassy/embassy"
)

// plain plays memory and passes in another way: by lists of what there is, with the document's own words for the errors.
type plain struct {
	who    func() int // the current thread
	c      api.Config
	memory map[[2]int]int64 // by frame and cell
}

func (p *plain) home() int { return p.c.Threads[p.who()].Space }

func (p *plain) findLeaf(page int) int {
	for n, l := range p.c.Leaves {
		if l.Space == p.home() && l.Page == page {
			return n
		}
	}
	return -1
}

func (p *plain) findPass(slot int) int {
	for n, x := range p.c.Passes {
		if x.Space == p.home() && x.Slot == slot {
			return n
		}
	}
	return -1
}

// reach finds the place of a cell, for one who needs a right.
func (p *plain) reach(page, cell, right int) ([2]int, api.Errno) {
	if page < 0 || page >= 6 || cell < 0 || cell >= 4 {
		return [2]int{}, api.ErrArg
	}
	n := p.findLeaf(page)
	if n < 0 || p.c.Leaves[n].Rights != right && p.c.Leaves[n].Rights != 3 {
		return [2]int{}, api.ErrFault
	}
	return [2]int{p.c.Leaves[n].Frame, cell}, api.OK
}

func (p *plain) load(page, cell int) (int64, api.Errno) {
	at, e := p.reach(page, cell, 1)
	if e != api.OK {
		return 0, e
	}
	return p.memory[at], api.OK
}

func (p *plain) store(page, cell int, n int64) api.Errno {
	at, e := p.reach(page, cell, 2)
	if e == api.OK {
		p.memory[at] = n
	}
	return e
}

func (p *plain) unmap(page int, own bool) api.Errno {
	if page < 0 || page >= 6 {
		return api.ErrArg
	}
	n := p.findLeaf(page)
	if n < 0 {
		return api.ErrPage
	}
	if own {
		p.c.Leaves = append(p.c.Leaves[:n], p.c.Leaves[n+1:]...)
	}
	return api.OK
}

func (p *plain) derive(slot, to, rights int) api.Errno {
	if slot < 0 || slot >= 6 || to < 0 || to >= 6 || rights < 1 || rights > 3 {
		return api.ErrArg
	}
	n := p.findPass(slot)
	if n < 0 || p.c.Passes[n].Rights != rights && p.c.Passes[n].Rights != 3 {
		return api.ErrPass
	}
	x := api.Pass{Space: p.home(), Slot: to, Thread: p.c.Passes[n].Thread, Rights: rights}
	p.drop(to)
	p.c.Passes = append(p.c.Passes, x)
	return api.OK
}

func (p *plain) drop(slot int) api.Errno {
	if slot < 0 || slot >= 6 {
		return api.ErrArg
	}
	n := p.findPass(slot)
	if n < 0 {
		return api.ErrPass
	}
	p.c.Passes = append(p.c.Passes[:n], p.c.Passes[n+1:]...)
	return api.OK
}

// mixed gives a configuration by chance: every slot and page has something or not.
func mixed(r *rand.Rand) api.Config {
	c := api.Config{Spaces: 1 + r.Intn(api.MaxSpaces)}
	for range 1 + r.Intn(api.MaxThreads) {
		c.Threads = append(c.Threads, api.Place{Space: r.Intn(c.Spaces), Row: 1})
	}
	for s := range c.Spaces {
		for n := range api.Slots {
			if r.Intn(2) == 0 {
				c.Passes = append(c.Passes, api.Pass{Space: s, Slot: n, Thread: r.Intn(len(c.Threads)), Rights: 1 + r.Intn(3)})
			}
		}
		for n := range api.Pages {
			if r.Intn(3) != 0 {
				c.Leaves = append(c.Leaves, api.Leaf{Space: s, Page: n, Frame: r.Intn(api.Frames), Rights: 1 + r.Intn(3)})
			}
		}
	}
	return c
}

// step makes one call by chance on both, and tells what it was and what each answered.
func (p *plain) step(k *embassy.Kernel, r *rand.Rand) (what string, got, want [2]int64) {
	a, b := r.Intn(8)-1, r.Intn(8)-1
	n, own := r.Int63()-r.Int63(), r.Intn(5) == 0
	both := func(name string, e, f api.Errno) (string, [2]int64, [2]int64) {
		return name, [2]int64{int64(e)}, [2]int64{int64(f)}
	}
	switch r.Intn(12) {
	case 0, 1, 2:
		x, e := k.Load(a, b%5)
		y, f := p.load(a, b%5)
		return "Load", [2]int64{int64(e), x}, [2]int64{int64(f), y}
	case 3, 4, 5:
		return both("Store", k.Store(a, b%5, n), p.store(a, b%5, n))
	case 6:
		return both("Unmap", k.Unmap(a, own), p.unmap(a, own))
	case 7, 8:
		rights := r.Intn(5)
		return both("Derive", k.Derive(a, b, rights), p.derive(a, b, rights))
	case 9:
		return both("Drop", k.Drop(a), p.drop(a))
	case 10:
		k.Tick()
	default:
		k.Yield()
	}
	return "", got, want
}

func TestManyCallsOnMemoryAndPasses(t *testing.T) {
	r := rand.New(rand.NewSource(2))
	for round := range 200 {
		c := mixed(r)
		k := boot(t, c)
		p := &plain{who: k.Current, c: cloned(c), memory: map[[2]int]int64{}}
		for step := range 100 {
			what, got, want := p.step(k, r)
			if got != want {
				t.Fatalf("P8, P9: round %d, step %d: %s = %d, want %d", round, step, what, got, want)
			}
			wantSpaces(t, k, p.c)
			if t.Failed() {
				t.Fatalf("round %d, step %d: after %s", round, step, what)
			}
		}
	}
}
