package line

import (
	"slices"
	"testing"
)

func drain[T comparable](l *Line[T]) []T {
	var order []T
	for {
		x, ok := l.First()
		if !ok {
			return order
		}
		order = append(order, x)
		l.Leave(x)
	}
}

func filled[T comparable](list ...T) *Line[T] {
	var l Line[T]
	for _, x := range list {
		l.ComeLast(x)
	}
	return &l
}

func TestFirstOfNobody(t *testing.T) {
	var l Line[int]
	if x, ok := l.First(); x != 0 || ok {
		t.Errorf("First = %d, %v", x, ok)
	}
	l.Leave(3)
	if x, ok := l.First(); x != 0 || ok {
		t.Errorf("First = %d, %v", x, ok)
	}
}

func TestOrder(t *testing.T) {
	for _, c := range []struct {
		name string
		do   func(l *Line[string])
		want []string
	}{
		{"as they came", func(l *Line[string]) {}, []string{"a", "b", "c"}},
		{"the first one comes last", func(l *Line[string]) { l.ComeLast("a") }, []string{"b", "c", "a"}},
		{"one of the middle comes last", func(l *Line[string]) { l.ComeLast("b") }, []string{"a", "c", "b"}},
		{"the last one comes last", func(l *Line[string]) { l.ComeLast("c") }, []string{"a", "b", "c"}},
		{"a new one comes last", func(l *Line[string]) { l.ComeLast("d") }, []string{"a", "b", "c", "d"}},
		{"the first one comes first", func(l *Line[string]) { l.ComeFirst("a") }, []string{"a", "b", "c"}},
		{"one of the middle comes first", func(l *Line[string]) { l.ComeFirst("b") }, []string{"b", "a", "c"}},
		{"the last one comes first", func(l *Line[string]) { l.ComeFirst("c") }, []string{"c", "a", "b"}},
		{"a new one comes first", func(l *Line[string]) { l.ComeFirst("d") }, []string{"d", "a", "b", "c"}},
		{"the first one leaves", func(l *Line[string]) { l.Leave("a") }, []string{"b", "c"}},
		{"one of the middle leaves", func(l *Line[string]) { l.Leave("b") }, []string{"a", "c"}},
		{"one who is not there leaves", func(l *Line[string]) { l.Leave("d") }, []string{"a", "b", "c"}},
		{"all leave", func(l *Line[string]) { drain(l) }, nil},
	} {
		l := filled("a", "b", "c")
		c.do(l)
		if got := drain(l); !slices.Equal(got, c.want) {
			t.Errorf("%s: %v, want %v", c.name, got, c.want)
		}
	}
}

func TestFirstLeavesAllInPlace(t *testing.T) {
	l := filled(7, 8)
	for range 2 {
		if x, ok := l.First(); x != 7 || !ok {
			t.Errorf("First = %d, %v", x, ok)
		}
	}
}

func TestComeFirstAmongNobody(t *testing.T) {
	var l Line[int]
	l.ComeFirst(5)
	l.ComeFirst(6)
	if got := drain(&l); !slices.Equal(got, []int{6, 5}) {
		t.Errorf("the line has %v", got)
	}
}

func TestFirstOfThoseThatFit(t *testing.T) {
	l := filled(4, 7, 9, 2)
	for _, c := range []struct {
		least, want int
		ok          bool
	}{
		{0, 4, true}, {4, 4, true}, {5, 7, true}, {8, 9, true}, {10, 0, false},
	} {
		if x, ok := l.FirstOf(func(n int) bool { return n >= c.least }); x != c.want || ok != c.ok {
			t.Errorf("FirstOf(at least %d) = %d, %v, want %d, %v", c.least, x, ok, c.want, c.ok)
		}
	}
	if got := drain(l); !slices.Equal(got, []int{4, 7, 9, 2}) {
		t.Errorf("FirstOf changed the line: %v", got)
	}
}
