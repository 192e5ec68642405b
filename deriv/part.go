package deriv

import (
	"catchpole/byteset"
	"catchpole/core"
)

// part is a part of a core with what its derivatives ask of it. That is found out
// once for each part, as parts stand within one another in up to MaxCore levels:
// going through all of a part at each of them would take very long.
type part struct {
	kind int
	set  byteset.Set
	l    []part
	null bool      // whether it matches the empty string
	tidy core.Core // the part after Tidy
}

// partOf returns the part that c is, which is valid.
func partOf(c core.Core) part {
	x := part{kind: c.Kind, set: c.Set, l: make([]part, len(c.L))}
	for i, element := range c.L {
		x.l[i] = partOf(element)
	}
	x.null, x.tidy = x.matchesEmpty(), x.simplified()
	return x
}

// matchesEmpty reports whether x matches the empty string, when that is known of
// its elements.
func (x part) matchesEmpty() bool {
	switch x.kind {
	case kindEmpty, kindStar:
		return true
	case kindConcat:
		return x.l[0].null && x.l[1].null
	case kindAlternative:
		return x.l[0].null || x.l[1].null
	case kindGroup, kindRenewal:
		return x.l[0].null
	}
	return false
}

// simplified returns x after Tidy, when its elements are tidy.
func (x part) simplified() core.Core {
	switch x.kind {
	case kindEmpty:
		return empty()
	case kindSet:
		return set(x.set)
	case kindConcat:
		return concat(x.l[0].tidy, x.l[1].tidy)
	case kindAlternative:
		return alternative(x.l[0].tidy, x.l[1].tidy)
	case kindStar:
		return star(x.l[0].tidy)
	case kindGroup, kindRenewal:
		return x.l[0].tidy
	}
	return nothing()
}

// derivative returns the derivative of x by b after Tidy. It is made of tidy parts
// at once: before Tidy, it may be far too large to be valid.
func (x part) derivative(b byte) core.Core {
	switch x.kind {
	case kindSet:
		if x.set.Has(b) {
			return empty()
		}
	case kindConcat:
		after := concat(x.l[0].derivative(b), x.l[1].tidy)
		if x.l[0].null {
			after = alternative(after, x.l[1].derivative(b))
		}
		return after
	case kindAlternative:
		return alternative(x.l[0].derivative(b), x.l[1].derivative(b))
	case kindStar:
		return concat(x.l[0].derivative(b), x.tidy)
	case kindGroup, kindRenewal:
		return x.l[0].derivative(b)
	}
	return nothing()
}
