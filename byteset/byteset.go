// Package byteset implements sets of bytes: see DOC.md, chapter 1.
package byteset

import (
	"bytes"
	"math/bits"
)

// Set is a set of bytes: byte b is bit b mod 64 of word b / 64.
// Sets are equal by == just if they have the same elements.
type Set [4]uint64

// Run is the range of the bytes from Lo to Hi, both included.
type Run struct{ Lo, Hi byte }

// Of returns the set of the given bytes.
func Of(b ...byte) Set {
	var s Set
	for _, x := range b {
		s[x/64] |= 1 << (x % 64)
	}
	return s
}

// Range returns the set of the bytes from lo to hi, both included; it is empty
// if lo is greater than hi.
func Range(lo, hi byte) Set {
	var s Set
	// An int counts on past 255, where a byte would begin again at 0.
	for x := int(lo); x <= int(hi); x++ {
		s[x/64] |= 1 << (x % 64)
	}
	return s
}

// All returns the set of all bytes.
func All() Set { return Set{}.Not() }

// Has reports whether b is an element.
func (s Set) Has(b byte) bool { return s[b/64]>>(b%64)&1 == 1 }

// Or returns the union.
func (s Set) Or(o Set) Set {
	for i := range s {
		s[i] |= o[i]
	}
	return s
}

// And returns the intersection.
func (s Set) And(o Set) Set {
	for i := range s {
		s[i] &= o[i]
	}
	return s
}

// Not returns the complement.
func (s Set) Not() Set {
	for i := range s {
		s[i] = ^s[i]
	}
	return s
}

// Minus returns the difference: the elements of s that are not in o.
func (s Set) Minus(o Set) Set { return s.And(o.Not()) }

// Len returns the number of elements.
func (s Set) Len() int {
	n := 0
	for _, w := range s {
		n += bits.OnesCount64(w)
	}
	return n
}

// Least returns the least element and true, or false if the set is empty.
func (s Set) Least() (byte, bool) {
	for i, w := range s {
		if w != 0 {
			return lowest(i, w), true
		}
	}
	return 0, false
}

// List returns the elements in ascending order.
func (s Set) List() []byte {
	l := make([]byte, 0, s.Len())
	for i, w := range s {
		for ; w != 0; w &= w - 1 {
			l = append(l, lowest(i, w))
		}
	}
	return l
}

// lowest returns the byte of the lowest bit of w, a word that is not 0 and
// whose place in a set is i.
func lowest(i int, w uint64) byte { return byte(i*64 + bits.TrailingZeros64(w)) }

// Runs returns the fewest ranges whose union is the set, in ascending order.
func (s Set) Runs() []Run {
	var l []Run
	for _, b := range s.List() {
		// No run ends at 255 while a byte follows, so Hi + 1 cannot wrap round.
		if n := len(l); n > 0 && l[n-1].Hi+1 == b {
			l[n-1].Hi = b
		} else {
			l = append(l, Run{Lo: b, Hi: b})
		}
	}
	return l
}

// Cmp compares the Lists of both sets lexicographically, where a proper prefix
// precedes: it returns -1, 0 or 1.
func (s Set) Cmp(o Set) int { return bytes.Compare(s.List(), o.List()) }
