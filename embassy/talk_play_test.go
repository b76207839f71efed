package embassy_test

import (
	"math/rand"
	"testing"

	"embassy/api"
	"embassy/embassy"
)

// town plays messages and times in another way: there are no lines; each thread has numbers that say when it came where it is, and how many ticks it still waits. What is lent it leaves to plain.
type town struct {
	plain
	people       []person
	early, later int // the numbers of who came first, and of who came last
}

type person struct {
	api.Thread
	message api.Message
	other   int  // whom it sends to
	lends   bool // by the pass that it had for that
	row     int
	came    int // to its row if it is ready, else to those who wait
	left    int
	rest    int // ticks that it still waits; 0: it has no time
}

func newTown(c api.Config) *town {
	w := &town{}
	w.plain = newPlain(w.current, c)
	for _, p := range c.Threads {
		w.people = append(w.people, person{Thread: fresh, row: p.Row, left: 3, came: w.last()})
	}
	return w
}

func (w *town) last() int  { w.later++; return w.later }
func (w *town) first() int { w.early--; return w.early }

func (w *town) current() int {
	best := -1
	for n, p := range w.people {
		if p.State == api.Ready && (best < 0 || p.row > w.people[best].row || p.row == w.people[best].row && p.came < w.people[best].came) {
			best = n
		}
	}
	return best
}

func (w *town) yield() api.Errno {
	n := w.current()
	if n < 0 {
		return api.ErrNone
	}
	w.people[n].left, w.people[n].came = 3, w.last()
	return api.OK
}

func (w *town) tick() {
	if n := w.current(); n >= 0 {
		w.people[n].left--
		if w.people[n].left == 0 {
			w.yield()
		}
	}
	for n := range w.people {
		p := &w.people[n]
		if p.rest > 0 {
			p.rest--
			if p.rest == 0 {
				w.finish(n, api.Thread{Code: api.ErrTimeout, From: -1, Got: -1}, w.last)
			}
		}
	}
}

// finish makes a thread ready; if it was not, it comes to its row by place.
func (w *town) finish(n int, told api.Thread, place func() int) {
	p := &w.people[n]
	if p.State != api.Ready {
		p.came = place()
	}
	told.State = api.Ready
	p.Thread, p.rest = told, 0
}

func (w *town) fail(n int, code api.Errno) {
	w.finish(n, api.Thread{Code: code, From: -1, Got: -1}, w.last)
}

func (w *town) stay(n, state int) {
	p := &w.people[n]
	p.State, p.came, p.rest = state, w.last(), max(p.message.Wait, 0)
}

func (w *town) isMessage(m api.Message) bool {
	switch {
	case m.To < -1 || m.To > 5, len(m.Words) > 4, m.Item < -1 || m.Item > 5, m.Rights < 0 || m.Rights > 3:
		return false
	case m.From < -2 || m.From >= len(w.people), m.Window < -1 || m.Window > 5, m.Wait < -1:
		return false
	}
	return m.To >= 0 || m.From >= -1
}

func (w *town) ipc(m api.Message) api.Errno {
	n := w.current()
	if n < 0 {
		return api.ErrNone
	}
	if !w.isMessage(m) {
		return api.ErrArg
	}
	w.people[n].message = m
	if m.To >= 0 {
		n = w.speak(n, m)
	}
	for n >= 0 {
		n = w.listen(n)
	}
	return api.OK
}

// speak tells who goes on to receive, or -1.
func (w *town) speak(n int, m api.Message) int {
	at := w.findPass(m.To)
	if at < 0 || w.c.Passes[at].Rights == 2 || w.c.Passes[at].Thread == n {
		w.fail(n, api.ErrPass)
		return -1
	}
	to := w.c.Passes[at].Thread
	w.people[n].lends = w.c.Passes[at].Rights == 3
	if from := w.people[to].message.From; w.people[to].State == api.Receiving && (from == -1 || from == n) {
		return w.hand(n, to)
	}
	if m.Wait == 0 {
		w.fail(n, api.ErrBusy)
		return -1
	}
	w.stay(n, api.Sending)
	w.people[n].other = to
	return -1
}

// listen tells who goes on to receive by that, or -1.
func (w *town) listen(n int) int {
	p, best := w.people[n], -1
	for x, q := range w.people {
		if q.State == api.Sending && q.other == n && (p.message.From == -1 || p.message.From == x) && (best < 0 || q.came < w.people[best].came) {
			best = x
		}
	}
	if best >= 0 {
		return w.hand(best, n)
	}
	if p.message.Wait == 0 {
		w.fail(n, api.ErrBusy)
		return -1
	}
	w.stay(n, api.Receiving)
	return -1
}

// hand gives words over, and what is lent, and tells who goes on to receive by that, or -1.
func (w *town) hand(from, to int) int {
	m, got := w.people[from].message, -1
	item, window := spot{w.c.Threads[from].Space, m.Item}, spot{w.c.Threads[to].Space, w.people[to].message.Window}
	if item.page >= 0 && window.page >= 0 && w.people[from].lends && w.give(item, m.Rights, window) {
		got = window.page
	}
	w.finish(to, api.Thread{From: from, Words: m.Words, Got: got}, w.first)
	if m.From == -2 {
		w.fail(from, api.OK)
		return -1
	}
	return from
}

// letter gives a message by chance, a wrong one now and then.
func letter(r *rand.Rand, threads int) api.Message {
	m := api.Message{To: r.Intn(7) - 1, Item: max(r.Intn(8)-2, -1), Rights: min(r.Intn(6), 3), From: r.Intn(threads+2) - 2, Window: max(r.Intn(8)-2, -1), Wait: r.Intn(8) - 1}
	for range r.Intn(5) {
		m.Words = append(m.Words, r.Int63()-r.Int63())
	}
	if r.Intn(3) == 0 {
		m.From = -1
	}
	if r.Intn(3) == 0 {
		m.Wait = -1
	}
	switch r.Intn(60) {
	case 0:
		m.From = threads
	case 1:
		m.Wait = -2
	case 2:
		m.To, m.From = -1, -2
	case 3:
		m.Item = 6
	case 4:
		m.Rights = 4
	case 5:
		m.Window = -2
	}
	return m
}

// choose has a page lent that has a leaf, and an empty one as a window: by chance alone the leaves would soon be gone.
func (w *town) choose(m *api.Message, r *rand.Rand) {
	for _, n := range r.Perm(api.Pages) {
		if w.findLeaf(spot{w.home(), n}) >= 0 {
			m.Item = n
		} else {
			m.Window = n
		}
	}
}

// step makes one call by chance on both, and tells what it was and what each answered.
func (w *town) step(k *embassy.Kernel, r *rand.Rand) (what string, got, want [2]int64) {
	both := func(name string, e, f api.Errno) (string, [2]int64, [2]int64) {
		return name, [2]int64{int64(e)}, [2]int64{int64(f)}
	}
	switch r.Intn(20) {
	case 0, 1, 2, 3, 4:
		k.Tick()
		w.tick()
		return "Tick", got, want
	case 5:
		return both("Yield", k.Yield(), w.yield())
	case 6, 7, 8, 9:
		if w.current() < 0 {
			return both("Unmap", k.Unmap(9, true), api.ErrNone)
		}
		return w.use(k, r)
	}
	m := letter(r, len(w.people))
	if w.current() >= 0 && r.Intn(4) != 0 {
		w.choose(&m, r)
	}
	return both("Ipc", k.Ipc(m), w.ipc(m))
}

// wantTown asks that the kernel tells of threads and spaces what the town has.
func wantTown(t *testing.T, k *embassy.Kernel, w *town) {
	t.Helper()
	wantCurrent(t, k, w.current())
	for n, p := range w.people {
		wantThread(t, k, n, p.Thread)
	}
	wantSpaces(t, k, w.c)
	for _, l := range w.c.Leaves {
		if above := w.above[where(l)]; len(above) > 0 {
			wantNoMoreRights(t, l, w.c.Leaves[w.findLeaf(above[0])])
		}
	}
}

func wantNoMoreRights(t *testing.T, lent, parent api.Leaf) {
	t.Helper()
	if lent.Frame != parent.Frame || lent.Rights|parent.Rights != parent.Rights {
		t.Errorf("P11: %+v was lent from %+v", lent, parent)
	}
}

// counts says how often something came about in a play, so that a play in which it does not is no proof.
type counts struct {
	codes map[api.Errno]int
	got   int // threads that had something lent to them
	deep  int // leaves that were lent by one to whom they were lent
}

func (c *counts) count(w *town) {
	for _, p := range w.people {
		c.codes[p.Code]++
		if p.Got >= 0 {
			c.got++
		}
	}
	for _, l := range w.c.Leaves {
		if len(w.above[where(l)]) > 1 {
			c.deep++
		}
	}
}

// play makes many calls by chance, on kernels of configurations by chance.
func play(t *testing.T, seed int64, configuration func(r *rand.Rand) api.Config) counts {
	t.Helper()
	r := rand.New(rand.NewSource(seed))
	seen := counts{codes: map[api.Errno]int{}}
	for round := range 400 {
		c := configuration(r)
		k, w := boot(t, c), newTown(c)
		for step := range 200 {
			what, got, want := w.step(k, r)
			if got != want {
				t.Errorf("P5, P7, P8, P9: %s = %d, want %d", what, got, want)
			}
			wantTown(t, k, w)
			seen.count(w)
			if t.Failed() {
				t.Fatalf("round %d, step %d: after %s", round, step, what)
			}
		}
	}
	return seen
}

func TestManyMessages(t *testing.T) {
	seen := play(t, 3, func(r *rand.Rand) api.Config {
		c := mixed(r)
		for n := range c.Threads {
			c.Threads[n].Row = r.Intn(1 + r.Intn(api.Rows))
		}
		return c
	})
	for _, code := range []api.Errno{api.OK, api.ErrPass, api.ErrBusy, api.ErrTimeout} {
		if seen.codes[code] < 1000 {
			t.Errorf("the play has told of code %d only %d times", code, seen.codes[code])
		}
	}
}

// Here all may lend to all, so that much is lent on.
func TestMuchIsLent(t *testing.T) {
	seen := play(t, 4, func(r *rand.Rand) api.Config {
		c := api.Config{Spaces: 1 + r.Intn(api.MaxSpaces)}
		for n := range api.MaxThreads {
			c.Threads = append(c.Threads, api.Place{Space: n % c.Spaces, Row: 1})
			for s := range c.Spaces {
				c.Passes = append(c.Passes, api.Pass{Space: s, Slot: n, Thread: n, Rights: 3})
			}
		}
		for n := range api.Pages {
			c.Leaves = append(c.Leaves, leaf(0, n, n, 1+r.Intn(3)))
		}
		return c
	})
	if seen.got < 10000 || seen.deep < 3000 {
		t.Errorf("the play has lent too little: %+v", seen)
	}
}
