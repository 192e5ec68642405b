package bits

import (
	"catchpole/api"
	"catchpole/core"
	"catchpole/value"
)

// The kinds of cores, but for 0, nothing, which has no values.
const (
	coreEmpty       = 1
	coreSet         = 2
	coreConcat      = 3
	coreAlternative = 4
	coreStar        = 5
	coreGroup       = 6
	coreRenewal     = 7
)

// Get returns the value of c with exactly these choices and exactly the bytes of
// s, or the first error that applies.
func Get(c core.Core, bits string, s []byte) (value.Value, api.Errno) {
	if len(s) > api.MaxInput || !core.Good(c) {
		return value.Value{}, api.EARG
	}
	r := reader{bits, s}
	v, ok := r.value(c)
	if !ok || len(r.bits) > 0 || len(r.s) > 0 {
		return value.Value{}, api.EBITS
	}
	return v, api.OK
}

// reader has the choices and the bytes that are not yet taken. As a core and the
// choices so far tell what comes next, it never has to go back.
type reader struct {
	bits string
	s    []byte
}

// value takes a value of c, which is valid. It returns false if there is none.
func (r *reader) value(c core.Core) (value.Value, bool) {
	switch c.Kind {
	case coreEmpty:
		return value.Value{Kind: kindEmpty}, true
	case coreSet:
		return r.letter(c)
	case coreConcat:
		return r.elements(kindConcat, c.L)
	case coreAlternative:
		switch r.choice() {
		case choiceLeft:
			return r.elements(kindLeft, c.L[:1])
		case choiceRight:
			return r.elements(kindRight, c.L[1:])
		}
	case coreStar:
		return r.star(c.L[0])
	case coreGroup:
		return r.elements(kindGroup, c.L)
	case coreRenewal:
		return r.value(c.L[0])
	}
	return value.Value{}, false
}

// choice takes the next choice. It returns 0, which is not one, if there are no
// more.
func (r *reader) choice() byte {
	if r.bits == "" {
		return 0
	}
	b := r.bits[0]
	r.bits = r.bits[1:]
	return b
}

// letter takes a byte that is a value of c, the core of a set.
func (r *reader) letter(c core.Core) (value.Value, bool) {
	if len(r.s) == 0 {
		return value.Value{}, false
	}
	v := value.Value{Kind: kindByte, B: r.s[0]}
	r.s = r.s[1:]
	return v, value.Good(c, v)
}

// elements takes a value of that kind, with a value of each core of l in it.
func (r *reader) elements(kind int, l []core.Core) (value.Value, bool) {
	v := value.Value{Kind: kind}
	for _, c := range l {
		x, ok := r.value(c)
		if !ok {
			return value.Value{}, false
		}
		v.L = append(v.L, x)
	}
	return v, true
}

// star takes a value of the star of c. It gives up at an iteration without a
// byte, so there are no more iterations than bytes, however many choices there
// are.
func (r *reader) star(c core.Core) (value.Value, bool) {
	v := value.Value{Kind: kindStar}
	for {
		switch r.choice() {
		case choiceMore:
			left := len(r.s)
			x, ok := r.value(c)
			if !ok || len(r.s) == left {
				return value.Value{}, false
			}
			v.L = append(v.L, x)
		case choiceEnd:
			return v, true
		default:
			return value.Value{}, false
		}
	}
}
