package caps

import (
	"catchpole/api"
	"catchpole/core"
	"catchpole/value"
)

// The kinds of cores whose values the walk goes into; the others have neither
// bytes nor groups.
const (
	kindSet         = 2
	kindConcat      = 3
	kindAlternative = 4
	kindStar        = 5
	kindGroup       = 6
	kindRenewal     = 7
)

// left is the kind of the value of an alternative's left element.
const left = 4

// numbers is a set of numbers of groups, one bit each.
type numbers uint64

// only returns the set of n alone.
func only(n int) numbers { return 1 << n }

// part is a part of a core. It knows which groups are within it, as a star asks
// for them once an iteration, of which there may be many.
type part struct {
	kind   int
	number int
	groups numbers
	l      []part
}

// partOf returns the part that is c, which is valid.
func partOf(c core.Core) part {
	p := part{kind: c.Kind, number: c.N}
	if c.Kind == kindGroup {
		p.groups = only(c.N)
	}
	for _, x := range c.L {
		inner := partOf(x)
		p.l = append(p.l, inner)
		p.groups |= inner.groups
	}
	return p
}

// walk goes through a value from left to right. The spans of groups that are not
// set are left over from before, so they don't count.
type walk struct {
	at    int
	set   numbers
	spans [api.MaxGroups + 1]Span
}

// value goes through v, a value of p.
func (w *walk) value(p *part, v value.Value) {
	switch p.kind {
	case kindSet:
		w.at++
	case kindConcat:
		w.value(&p.l[0], v.L[0])
		w.value(&p.l[1], v.L[1])
	case kindAlternative:
		if v.Kind == left {
			w.value(&p.l[0], v.L[0])
		} else {
			w.value(&p.l[1], v.L[0])
		}
	case kindStar:
		for _, x := range v.L {
			w.renew(&p.l[0], x)
		}
	case kindGroup:
		from := w.at
		w.value(&p.l[0], v.L[0])
		w.spans[p.number] = Span{from, w.at}
		w.set |= only(p.number)
	case kindRenewal:
		w.renew(&p.l[0], v)
	}
}

// renew unsets the groups within p and goes through v, a value of p.
func (w *walk) renew(p *part, v value.Value) {
	w.set &^= p.groups
	w.value(p, v)
}

// span returns the span of the group of that number.
func (w *walk) span(number int) Span {
	if w.set&only(number) == 0 {
		return Span{none, none}
	}
	return w.spans[number]
}
