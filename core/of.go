package core

import (
	"catchpole/api"
	"catchpole/tree"
)

// The kinds of nodes.
const (
	nodeSet         = 1
	nodeConcat      = 2
	nodeAlternative = 3
	nodeRepeat      = 4
	nodeGroup       = 5
)

// noUpper is the Hi of a repetition without an upper bound.
const noUpper = -1

// Of returns the core of a node, or the first error that applies.
func Of(n tree.Node) (Core, api.Errno) {
	if !valid(n) {
		return Core{}, api.EARG
	}
	var m maker
	c := m.node(n)
	if m.full() {
		return Core{}, api.ELARGE
	}
	return c, api.OK
}

// valid reports whether n is the root of a valid pattern.
func valid(n tree.Node) bool {
	// The size is asked first: the nodes of a greater one may be too many to go
	// through.
	return tree.Size(n) <= api.MaxCore && tree.Good(tree.Pattern{Root: n, Groups: groups(n)})
}

// groups returns the number of groups in n.
func groups(n tree.Node) int {
	count := 0
	if n.Kind == nodeGroup {
		count = 1
	}
	for _, x := range n.L {
		count += groups(x)
	}
	return count
}

// maker makes the parts of one core and counts them. It makes little more once
// it is full, as the copies of nested repetitions may be more than anybody can
// make.
type maker struct{ size int }

// full reports whether the core has become too large.
func (m *maker) full() bool { return m.size > api.MaxCore }

// part makes a part of that kind and of those elements.
func (m *maker) part(kind int, l ...Core) Core {
	m.size++
	return Core{Kind: kind, L: l}
}

// node makes the core of n, a node of a valid pattern.
func (m *maker) node(n tree.Node) Core {
	if m.full() {
		return Core{}
	}
	switch n.Kind {
	case nodeSet:
		c := m.part(kindSet)
		c.Set = n.Set
		return c
	case nodeConcat:
		return m.join(kindConcat, m.nodes(n.L))
	case nodeAlternative:
		return m.join(kindAlternative, m.nodes(n.L))
	case nodeRepeat:
		return m.repetition(n.L[0], n.Lo, n.Hi)
	case nodeGroup:
		c := m.part(kindGroup, m.node(n.L[0]))
		c.N = n.N
		return c
	}
	return m.node(n.L[0])
}

// nodes makes the core of each node of l.
func (m *maker) nodes(l []tree.Node) []Core {
	cores := make([]Core, len(l))
	for i, n := range l {
		cores[i] = m.node(n)
	}
	return cores
}

// join makes a part of that kind of the first core of l and of the others,
// joined likewise; the last one alone is that one itself.
func (m *maker) join(kind int, l []Core) Core {
	last := len(l) - 1
	c := l[last]
	for i := last - 1; i >= 0; i-- {
		c = m.part(kind, l[i], c)
	}
	return c
}

// repetition makes the core of x from lo to hi times.
func (m *maker) repetition(x tree.Node, lo, hi int) Core {
	if hi == 0 {
		return m.part(kindEmpty)
	}
	var l []Core
	for i := range lo {
		l = append(l, m.copy(x, i == 0))
	}
	if hi == noUpper {
		l = append(l, m.part(kindStar, m.copy(x, lo == 0)))
	} else if hi > lo {
		l = append(l, m.optional(x, hi-lo, lo == 0))
	}
	return m.join(kindConcat, l)
}

// copy makes a copy of x, which is renewed unless it is the first one of its
// repetition.
func (m *maker) copy(x tree.Node, first bool) Core {
	c := m.node(x)
	if first {
		return c
	}
	return m.part(kindRenewal, c)
}

// optional makes that many nested optional copies of x.
func (m *maker) optional(x tree.Node, times int, first bool) Core {
	c := m.copy(x, first)
	if times > 1 {
		c = m.part(kindConcat, c, m.optional(x, times-1, false))
	}
	return m.part(kindAlternative, c, m.part(kindEmpty))
}
