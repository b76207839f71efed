package embassy_test

import (
	"math/rand"
	"testing"

	"embassy/api"
	"embassy/embassy"
)

func TestWhoIsCurrentAtFirst(t *testing.T) {
	for _, x := range []struct {
		rows []int
		want int
	}{
		{[]int{0}, 0},
		{[]int{api.Rows - 1}, 0},
		{[]int{0, 0, 0}, 0},
		{[]int{0, 1}, 1},
		{[]int{1, 0}, 0},
		{[]int{0, 1, 2, 3}, 3},
		{[]int{3, 2, 1, 0}, 0},
		{[]int{0, 2, 1, 2, 2, 0}, 1},
		{[]int{0, 0, 0, 0, 0, 3}, 5},
	} {
		wantCurrent(t, boot(t, inRows(x.rows...)), x.want)
	}
}

func TestTicksGoAroundTheHighestRow(t *testing.T) {
	k := boot(t, inRows(3, 1, 3, 3, 1))
	for range 4 {
		for _, n := range []int{0, 2, 3} {
			for range api.Slice {
				wantCurrent(t, k, n)
				k.Tick()
			}
		}
	}
	wantCurrent(t, k, 0)
}

func TestOneAloneStaysCurrent(t *testing.T) {
	k := boot(t, inRows(0, 1, 0))
	for n := range 20 {
		wantCurrent(t, k, 1)
		if n%4 == 3 {
			k.Yield()
		}
		k.Tick()
	}
}

func TestYieldGivesTheWholeSliceBack(t *testing.T) {
	for spent := range api.Slice {
		k := boot(t, inRows(2, 2))
		for range spent {
			k.Tick()
		}
		if e := k.Yield(); e != api.OK {
			t.Errorf("P7: Yield = %d", e)
		}
		for _, n := range []int{1, 0, 1} {
			for range api.Slice {
				wantCurrent(t, k, n)
				k.Tick()
			}
		}
	}
}

func TestYieldIsOfTheCurrentThread(t *testing.T) {
	k := boot(t, inRows(0, 3, 3, 0, 3))
	for range 3 {
		for _, n := range []int{1, 2, 4} {
			wantCurrent(t, k, n)
			if e := k.Yield(); e != api.OK {
				t.Errorf("P4: Yield = %d", e)
			}
		}
	}
}

// model plays the rows in another way: each thread has a number that says when it came to the end of its row.
type model struct {
	rows, came, left []int
	latest           int
}

func newModel(rows []int) *model {
	m := &model{rows: rows}
	for n := range rows {
		m.came = append(m.came, n)
		m.left = append(m.left, 3)
		m.latest = n
	}
	return m
}

func (m *model) current() int {
	best := 0
	for n := range m.rows {
		if m.rows[n] > m.rows[best] || m.rows[n] == m.rows[best] && m.came[n] < m.came[best] {
			best = n
		}
	}
	return best
}

func (m *model) yield() {
	n := m.current()
	m.latest++
	m.came[n], m.left[n] = m.latest, 3
}

func (m *model) tick() {
	n := m.current()
	if m.left[n] == 1 {
		m.yield()
		return
	}
	m.left[n]--
}

func TestManyTicksAndYields(t *testing.T) {
	r := rand.New(rand.NewSource(1))
	for range 300 {
		rows := make([]int, 1+r.Intn(api.MaxThreads))
		for n := range rows {
			rows[n] = r.Intn(api.Rows)
		}
		k, m := boot(t, inRows(rows...)), newModel(rows)
		for step := range 100 {
			if got, want := k.Current(), m.current(); got != want {
				t.Fatalf("P3, P7: rows %v, step %d: Current = %d, want %d", rows, step, got, want)
			}
			playOne(k, m, r.Intn(3) == 0)
		}
	}
}

func playOne(k *embassy.Kernel, m *model, yields bool) {
	if yields {
		k.Yield()
		m.yield()
		return
	}
	k.Tick()
	m.tick()
}
