package core

import (
	"slices"

	"embassy/api"
	"embassy/deny"
)

// Look tells of the thread n.
func (m *Machine) Look(n int) (api.Thread, error) {
	t, err := pick(m.threads, n)
	if err != nil {
		return api.Thread{}, deny.Met{By: "Look", Err: err}
	}
	told := t.told
	told.Words = slices.Clone(told.Words)
	return told, nil
}

// Space tells of the space n.
func (m *Machine) Space(n int) (api.Space, error) {
	s, err := pick(m.spaces, n)
	if err != nil {
		return api.Space{}, deny.Met{By: "Space", Err: err}
	}
	return api.Space{Passes: s.tellPasses(n), Leaves: s.tellLeaves(n)}, nil
}

// tellPasses lists the passes of s, which is the space n, by rising slots.
func (s *space) tellPasses(n int) []api.Pass {
	var list []api.Pass
	for slot, p := range s.slots {
		if p.rights != 0 {
			list = append(list, api.Pass{Space: n, Slot: slot, Thread: p.thread, Rights: p.rights})
		}
	}
	return list
}

// tellLeaves lists the leaves of s, which is the space n, by rising pages.
func (s *space) tellLeaves(n int) []api.Leaf {
	var list []api.Leaf
	for page, l := range s.pages {
		if l.rights != 0 {
			list = append(list, api.Leaf{Space: n, Page: page, Frame: l.frame, Rights: l.rights})
		}
	}
	return list
}
