package embassy_test

import (
	"math/rand"
	"testing"

	"embassy/api"
	"embassy/embassy"
)

// town plays messages and times in another way: there are no lines; each thread has numbers that say when it came where it is, and how many ticks it still waits.
type town struct {
	plain
	people       []person
	early, later int // the numbers of who came first, and of who came last
}

type person struct {
	api.Thread
	message api.Message
	other   int // whom it sends to
	row     int
	came    int // to its row if it is ready, else to those who wait
	left    int
	rest    int // ticks that it still waits; 0: it has no time
}

func newTown(c api.Config) *town {
	w := &town{plain: plain{c: cloned(c), memory: map[[2]int]int64{}}}
	w.who = w.current
	for _, p := range c.Threads {
		w.people = append(w.people, person{Thread: fresh, row: p.Row, left: 3, came: w.last()})
	}
	return w
}

func (w *town) last() int  { w.later++; return w.later }
func (w *town) first() int { w.early--; return w.early }

func (w *town) current() int {
	best := -1
	for n, p := range w.people {
		if p.State == api.Ready && (best < 0 || p.row > w.people[best].row || p.row == w.people[best].row && p.came < w.people[best].came) {
			best = n
		}
	}
	return best
}

func (w *town) yield() api.Errno {
	n := w.current()
	if n < 0 {
		return api.ErrNone
	}
	w.people[n].left, w.people[n].came = 3, w.last()
	return api.OK
}

func (w *town) tick() {
	if n := w.current(); n >= 0 {
		w.people[n].left--
		if w.people[n].left == 0 {
			w.yield()
		}
	}
	for n := range w.people {
		p := &w.people[n]
		if p.rest > 0 {
			p.rest--
			if p.rest == 0 {
				w.finish(n, api.Thread{Code: api.ErrTimeout, From: -1, Got: -1}, w.last)
			}
		}
	}
}

// finish makes a thread ready; if it was not, it comes to its row by place.
func (w *town) finish(n int, told api.Thread, place func() int) {
	p := &w.people[n]
	if p.State != api.Ready {
		p.came = place()
	}
	told.State = api.Ready
	p.Thread, p.rest = told, 0
}

func (w *town) fail(n int, code api.Errno) {
	w.finish(n, api.Thread{Code: code, From: -1, Got: -1}, w.last)
}

func (w *town) stay(n, state int) {
	p := &w.people[n]
	p.State, p.came, p.rest = state, w.last(), max(p.message.Wait, 0)
}

func (w *town) isMessage(m api.Message) bool {
	switch {
	case m.To < -1 || m.To > 5, len(m.Words) > 4, m.Item < -1 || m.Item > 5, m.Rights < 0 || m.Rights > 3:
		return false
	case m.From < -2 || m.From >= len(w.people), m.Window < -1 || m.Window > 5, m.Wait < -1:
		return false
	}
	return m.To >= 0 || m.From >= -1
}

func (w *town) ipc(m api.Message) api.Errno {
	n := w.current()
	if n < 0 {
		return api.ErrNone
	}
	if !w.isMessage(m) {
		return api.ErrArg
	}
	w.people[n].message = m
	if m.To >= 0 {
		n = w.speak(n, m)
	}
	for n >= 0 {
		n = w.listen(n)
	}
	return api.OK
}

// speak tells who goes on to receive, or -1.
func (w *town) speak(n int, m api.Message) int {
	at := w.findPass(m.To)
	if at < 0 || w.c.Passes[at].Rights == 2 || w.c.Passes[at].Thread == n {
		w.fail(n, api.ErrPass)
		return -1
	}
	to := w.c.Passes[at].Thread
	if from := w.people[to].message.From; w.people[to].State == api.Receiving && (from == -1 || from == n) {
		return w.hand(n, to)
	}
	if m.Wait == 0 {
		w.fail(n, api.ErrBusy)
		return -1
	}
	w.stay(n, api.Sending)
	w.people[n].other = to
	return -1
}

// listen tells who goes on to receive by that, or -1.
func (w *town) listen(n int) int {
	p, best := w.people[n], -1
	for x, q := range w.people {
		if q.State == api.Sending && q.other == n && (p.message.From == -1 || p.message.From == x) && (best < 0 || q.came < w.people[best].came) {
			best = x
		}
	}
	if best >= 0 {
		return w.hand(best, n)
	}
	if p.message.Wait == 0 {
		w.fail(n, api.ErrBusy)
		return -1
	}
	w.stay(n, api.Receiving)
	return -1
}

// hand gives words over, and tells who goes on to receive by that, or -1.
func (w *town) hand(from, to int) int {
	w.finish(to, api.Thread{From: from, Words: w.people[from].message.Words, Got: -1}, w.first)
	if w.people[from].message.From == -2 {
		w.fail(from, api.OK)
		return -1
	}
	return from
}

// letter gives a message by chance, a wrong one now and then. What may be lent is left out.
func letter(r *rand.Rand, threads int) api.Message {
	m := api.Message{To: r.Intn(7) - 1, Item: -1, Rights: r.Intn(4), From: r.Intn(threads+2) - 2, Window: -1, Wait: r.Intn(8) - 1}
	for range r.Intn(5) {
		m.Words = append(m.Words, r.Int63()-r.Int63())
	}
	if r.Intn(3) == 0 {
		m.From = -1
	}
	if r.Intn(3) == 0 {
		m.Wait = -1
	}
	switch r.Intn(60) {
	case 0:
		m.From = threads
	case 1:
		m.Wait = -2
	case 2:
		m.To, m.From = -1, -2
	}
	return m
}

// step makes one call by chance on both, and tells what it was and what each answered.
func (w *town) step(k *embassy.Kernel, r *rand.Rand) (what string, got, want api.Errno) {
	switch r.Intn(14) {
	case 0, 1, 2, 3:
		k.Tick()
		w.tick()
		return "Tick", 0, 0
	case 4:
		return "Yield", k.Yield(), w.yield()
	case 5:
		if w.current() < 0 {
			return "Drop", k.Drop(9), api.ErrNone
		}
		slot, to := r.Intn(6), r.Intn(6)
		return "Derive", k.Derive(slot, to, 1), w.derive(slot, to, 1)
	}
	m := letter(r, len(w.people))
	return "Ipc", k.Ipc(m), w.ipc(m)
}

func TestManyMessages(t *testing.T) {
	r := rand.New(rand.NewSource(3))
	seen := map[api.Errno]int{}
	for round := range 500 {
		c := mixed(r)
		for n := range c.Threads {
			c.Threads[n].Row = r.Intn(1 + r.Intn(api.Rows))
		}
		k, w := boot(t, c), newTown(c)
		for step := range 150 {
			what, got, want := w.step(k, r)
			if got != want || k.Current() != w.current() {
				t.Fatalf("P5, P7: round %d, step %d: %s = %d, Current = %d, want %d, %d", round, step, what, got, k.Current(), want, w.current())
			}
			for n, p := range w.people {
				wantThread(t, k, n, p.Thread)
				seen[p.Code]++
			}
			if t.Failed() {
				t.Fatalf("round %d, step %d: after %s", round, step, what)
			}
		}
	}
	for _, code := range []api.Errno{api.OK, api.ErrPass, api.ErrBusy, api.ErrTimeout} {
		if seen[code] < 1000 {
			t.Errorf("the play has told of code %d only %d times", code, seen[code])
		}
	}
}
