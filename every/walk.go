package every

import (
	"catchpole/core"
	"catchpole/value"
)

// The kinds of values.
const (
	kindEmpty  = 1
	kindByte   = 2
	kindConcat = 3
	kindLeft   = 4
	kindRight  = 5
	kindStar   = 6
	kindGroup  = 7
)

// letter returns the value of a byte.
func letter(b byte) value.Value { return value.Value{Kind: kindByte, B: b} }

// value returns the value of c, the core of the table, that has so many others
// before it in the order of their choices. It must not be asked where the total has
// come to the limit: what is cut there would lead it astray.
func (t *table) value(c core.Core, rank int) value.Value {
	w := walk{t: t, place: t.m.start, rank: rank}
	return w.value(c)
}

// walk follows one way: by its rank among the ways that go on from its place.
type walk struct {
	t         *table
	at, place int
	rank      int
}

// value follows the way through c, which begins at its place, and returns the
// value of c on it.
func (w *walk) value(c core.Core) value.Value {
	switch c.Kind {
	case coreSet:
		return w.letter()
	case coreConcat:
		return w.elements(kindConcat, c.L)
	case coreAlternative:
		if w.first() {
			return w.elements(kindLeft, c.L[:1])
		}
		return w.elements(kindRight, c.L[1:])
	case coreStar:
		v := value.Value{Kind: kindStar}
		for w.first() {
			v.L = append(v.L, w.value(c.L[0]))
		}
		return v
	case coreGroup:
		return w.elements(kindGroup, c.L)
	case coreRenewal:
		return w.value(c.L[0])
	}
	return value.Value{Kind: kindEmpty}
}

// letter reads a byte.
func (w *walk) letter() value.Value {
	b := w.t.rows[w.at][0]
	w.at++
	w.place = w.t.m.places[w.place].first
	return letter(b)
}

// elements returns a value of that kind, with a value of each core of l in it.
func (w *walk) elements(kind int, l []core.Core) value.Value {
	v := value.Value{Kind: kind, L: make([]value.Value, 0, len(l))}
	for _, c := range l {
		v.L = append(v.L, w.value(c))
	}
	return v
}

// first goes on from a fork and reports whether at its first place: all ways by
// the first choice precede those by the second.
func (w *walk) first() bool {
	fork := &w.t.m.places[w.place]
	ways := w.t.ways[w.at][fork.first]
	if w.rank < ways {
		w.place = fork.first
		return true
	}
	w.rank -= ways
	w.place = fork.second
	return false
}
