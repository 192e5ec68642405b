package lang

import (
	"catchpole/byteset"
	"catchpole/core"
)

// machine reads a string once and is in all states at the same time that the
// bytes so far may lead to. So stars that are nested, and parts that match the
// same in many ways, take it no longer than others.
type machine struct {
	states []state
	start  int
}

// state is a place in a core: a fork, where the machine goes on at next and at
// other without reading, and set is empty, or a place where it goes on at next by
// a byte of set.
type state struct {
	fork        bool
	set         byteset.Set
	next, other int
}

// done is the state where all of the core is matched, which reads no byte.
const done = 0

// machineOf returns the machine of c, which is valid.
func machineOf(c core.Core) *machine {
	m := &machine{states: []state{{}}}
	m.start = m.build(c, done)
	return m
}

// build adds the states of c, after which the machine goes on at next, and
// returns the one where c begins.
func (m *machine) build(c core.Core, next int) int {
	switch c.Kind {
	case kindEmpty:
		return next
	case kindSet:
		return m.add(state{set: c.Set, next: next})
	case kindConcat:
		return m.build(c.L[0], m.build(c.L[1], next))
	case kindAlternative:
		return m.add(state{fork: true, next: m.build(c.L[0], next), other: m.build(c.L[1], next)})
	case kindStar:
		again := m.add(state{fork: true, other: next})
		inside := m.build(c.L[0], again)
		m.states[again].next = inside
		return again
	case kindGroup, kindRenewal:
		return m.build(c.L[0], next)
	}
	// Nothing is a state that reads no byte, but isn't done.
	return m.add(state{})
}

// add adds a state and returns its index.
func (m *machine) add(x state) int {
	m.states = append(m.states, x)
	return len(m.states) - 1
}

// ends returns the places where the machine is done when it begins at from.
func (m *machine) ends(s []byte, from int) []int {
	var ends []int
	now := m.nowhere()
	m.enter(&now, m.start)
	for at := from; len(now.list) > 0; at++ {
		if now.in[done] {
			ends = append(ends, at)
		}
		if at == len(s) {
			break
		}
		now = m.step(now, s[at])
	}
	return ends
}

// step returns the states after those of now when b is read.
func (m *machine) step(now crowd, b byte) crowd {
	after := m.nowhere()
	for _, at := range now.list {
		if x := m.states[at]; x.set.Has(b) {
			m.enter(&after, x.next)
		}
	}
	return after
}

// crowd is a set of states: a list of them, and for each state whether it is
// among them.
type crowd struct {
	list []int
	in   []bool
}

// nowhere returns the crowd of no state.
func (m *machine) nowhere() crowd { return crowd{in: make([]bool, len(m.states))} }

// enter adds a state to c, and those to which it leads without reading.
func (m *machine) enter(c *crowd, at int) {
	// A star whose element matches the empty string leads back to itself.
	if c.in[at] {
		return
	}
	c.in[at] = true
	c.list = append(c.list, at)
	if x := m.states[at]; x.fork {
		m.enter(c, x.next)
		m.enter(c, x.other)
	}
}
