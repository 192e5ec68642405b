package rank

import (
	"cmp"

	"catchpole/value"
)

// The kinds of values that have a byte or elements: no other kind has anything
// that counts.
const (
	kindByte   = 2
	kindConcat = 3
	kindLeft   = 4
	kindRight  = 5
	kindStar   = 6
	kindGroup  = 7
)

// outcome is what comes of comparing two values, or two lists of them: by how
// many bytes the first is longer, and whether it precedes, as Cmp tells it. Both
// come of one walk, as asking for the Len of each element anew would take values
// within values very long.
type outcome struct{ longer, order int }

// compare compares v and w.
func compare(v, w value.Value) outcome {
	o := compareParts(v, w)
	// The greater length precedes.
	o.order = cmp.Or(cmp.Compare(0, o.longer), o.order)
	return o
}

// compareParts compares v and w, where a difference in length does not decide.
func compareParts(v, w value.Value) outcome {
	if v.Kind != w.Kind {
		return outcome{value.Len(v) - value.Len(w), cmp.Compare(v.Kind, w.Kind)}
	}
	if v.Kind == kindByte {
		return outcome{0, cmp.Compare(v.B, w.B)}
	}
	return compareLists(counted(v), counted(w))
}

// compareLists compares the values of l and m in order. Those ahead of the first
// difference are equally long, and those behind it matter for the length alone.
func compareLists(l, m []value.Value) outcome {
	both := min(len(l), len(m))
	var o outcome
	i := 0
	for ; i < both && o.order == 0; i++ {
		o = compare(l[i], m[i])
	}
	o.longer += length(l[i:]) - length(m[i:])
	// The greater number of elements precedes.
	o.order = cmp.Or(o.order, cmp.Compare(len(m), len(l)))
	return o
}

// length returns the number of the bytes of all values of l.
func length(l []value.Value) int {
	sum := 0
	for _, v := range l {
		sum += value.Len(v)
	}
	return sum
}

// counted returns the elements of L that count for the kind of v, which may be
// fewer than the kind has.
func counted(v value.Value) []value.Value {
	switch v.Kind {
	case kindConcat:
		return v.L[:min(2, len(v.L))]
	case kindLeft, kindRight, kindGroup:
		return v.L[:min(1, len(v.L))]
	case kindStar:
		return v.L
	}
	return nil
}
