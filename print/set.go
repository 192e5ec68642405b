package print

import (
	"strings"

	"catchpole/byteset"
	"catchpole/class"
)

// special are the bytes that need a backslash to stand for themselves.
const special = `.[]\()*+?{}|^$`

// maxListed is the greatest number of elements of a set that is written by its
// elements and not by those of its complement.
const maxListed = 128

// Set returns the text of s.
func Set(s byteset.Set) string {
	size := s.Len()
	switch {
	case size == 0:
		return ""
	case s == byteset.All():
		return "."
	case size == 1:
		return single(s.List()[0])
	}
	if name, ok := class.Whole(s); ok {
		return "[[:" + name + ":]]"
	}
	if size > maxListed {
		return "[^" + items(s.Not()) + "]"
	}
	return "[" + items(s) + "]"
}

// single returns the text of the set of b.
func single(b byte) string {
	if strings.IndexByte(special, b) >= 0 {
		return string([]byte{'\\', b})
	}
	return string([]byte{b})
}

// items returns what stands for the elements of s in a bracket expression.
func items(s byteset.Set) string {
	if s == byteset.Of('-', '^') {
		// Neither has another byte before it, and a ^ that is the first one
		// would denote the complement.
		return "-^"
	}
	apart := byteset.Of(']', '^', '-')
	if !s.Has('[' - 1) {
		// A [ would be the beginning of a run.
		apart = apart.Or(byteset.Of('['))
	}
	var text strings.Builder
	writeIf(&text, s, ']')
	for _, r := range s.Minus(apart).Runs() {
		writeRun(&text, r)
	}
	for _, b := range []byte{'[', '^', '-'} {
		writeIf(&text, s.And(apart), b)
	}
	return text.String()
}

// writeIf adds b if it is an element of s.
func writeIf(text *strings.Builder, s byteset.Set, b byte) {
	if s.Has(b) {
		text.WriteByte(b)
	}
}

// writeRun adds the item or the items of a run.
func writeRun(text *strings.Builder, r byteset.Run) {
	text.WriteByte(r.Lo)
	if r.Hi-r.Lo > 1 {
		text.WriteByte('-')
	}
	if r.Hi > r.Lo {
		text.WriteByte(r.Hi)
	}
}
