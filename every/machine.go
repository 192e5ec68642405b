package every

import (
	"catchpole/core"
	"catchpole/value"
)

// The kinds of cores, but for 0, nothing: it is the one that is left.
const (
	coreEmpty       = 1
	coreSet         = 2
	coreConcat      = 3
	coreAlternative = 4
	coreStar        = 5
	coreGroup       = 6
	coreRenewal     = 7
)

// machine is a core as the places on all ways through it. Each part of the core
// is there twice: for ways on which the iteration of the star around it has no
// byte yet, and for the others. So a way can't end an iteration that is empty,
// and none comes back to a place without having read a byte.
type machine struct {
	bytes  []byte // those that may be read
	places []place
	start  int
}

// place is a place on the ways through a core: a letter, where a way reads a byte
// that the letter takes and goes on at first; or a fork, where it goes on at first
// or at second.
type place struct {
	kind          int
	takes         []bool
	first, second int
}

// The kinds of places, beside the one where the core ends and the one where no
// way goes on.
const (
	placeLetter = 1
	placeFork   = 2
)

// The places that each machine has.
const (
	end  = 0
	dead = 1
)

// pair is where a part begins: the place for ways that have read a byte in the
// iteration around it, and the place for the others.
type pair struct{ read, fresh int }

// machineOf returns the machine of c, which is valid, for ways that read no other
// bytes than those.
func machineOf(c core.Core, bytes []byte) *machine {
	m := &machine{bytes: bytes, places: make([]place, 2)}
	// No iteration is around the core itself.
	m.start = m.build(c, pair{end, dead}).read
	return m
}

// build adds the places of c, after which the ways go on at next, and returns
// where c begins.
func (m *machine) build(c core.Core, next pair) pair {
	switch c.Kind {
	case coreEmpty:
		return next
	case coreSet:
		p := m.letter(c, next.read)
		return pair{p, p}
	case coreConcat:
		return m.build(c.L[0], m.build(c.L[1], next))
	case coreAlternative:
		a, b := m.build(c.L[0], next), m.build(c.L[1], next)
		return pair{m.fork(a.read, b.read), m.fork(a.fresh, b.fresh)}
	case coreStar:
		again := m.fork(dead, next.read)
		first := m.build(c.L[0], pair{again, dead}).fresh
		m.places[again].first = first
		return pair{again, m.fork(first, next.fresh)}
	case coreGroup, coreRenewal:
		return m.build(c.L[0], next)
	}
	return pair{dead, dead}
}

// letter adds the place of c, the core of a set.
func (m *machine) letter(c core.Core, next int) int {
	takes := make([]bool, 256)
	for _, b := range m.bytes {
		takes[b] = value.Good(c, letter(b))
	}
	return m.add(place{kind: placeLetter, takes: takes, first: next})
}

// fork adds a place where the ways go on at first or at second.
func (m *machine) fork(first, second int) int {
	return m.add(place{kind: placeFork, first: first, second: second})
}

// add adds a place and returns its index.
func (m *machine) add(p place) int {
	m.places = append(m.places, p)
	return len(m.places) - 1
}
