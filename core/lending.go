package core

// parcel is what one thread delivers to another one.
type parcel struct {
	words  []int64
	item   int // the page that is lent, or nothing
	rights int // for what is lent
}

// lend puts what is lent with the parcel of thread from into the window of thread to, and tells in which page it came, if it did.
func (m *Machine) lend(from, to *thread) int {
	p, window := from.talk.parcel, to.talk.window
	if p.item == nothing || window == nothing {
		return nothing
	}
	place := m.pageOf(to, window)
	m.remove(place)
	// Only now: the leaf that is lent may have been in the window itself, or a child of what was there.
	lent := m.pageOf(from, p.item)
	rights := lent.rights & p.rights
	if rights == 0 {
		return nothing
	}
	*place = leaf{frame: lent.frame, rights: rights, parent: lent}
	return window
}

// remove empties the page l, and all pages that have something of it.
func (m *Machine) remove(l *leaf) {
	m.takeBack(l)
	*l = leaf{}
}

// takeBack removes all that was lent of the leaf l. It ends, since nobody can lend a leaf to its own parents: they would be gone first, and it with them.
func (m *Machine) takeBack(l *leaf) {
	for s := range m.spaces {
		for n := range m.spaces[s].pages {
			if child := &m.spaces[s].pages[n]; child.parent == l {
				m.remove(child)
			}
		}
	}
}

// pageOf finds the page n of the space in which thread t lives.
func (m *Machine) pageOf(t *thread, n int) *leaf {
	return &m.spaces[t.place.Space].pages[n]
}
