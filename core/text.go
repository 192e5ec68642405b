package core

import (
	"strconv"
	"strings"

	"catchpole/byteset"
)

// hexDigits are the digits of the bytes in a text.
const hexDigits = "0123456789abcdef"

// Text returns the text of a valid core, and the empty string for every other
// one.
func Text(c Core) string {
	if !Good(c) {
		return ""
	}
	var w strings.Builder
	writeCore(&w, c)
	return w.String()
}

// writeCore writes the text of c, which is valid.
func writeCore(w *strings.Builder, c Core) {
	switch c.Kind {
	case kindNothing:
		w.WriteByte('0')
	case kindEmpty:
		w.WriteByte('1')
	case kindSet:
		writeSet(w, c.Set)
	case kindConcat:
		writeParts(w, c.L, "(", ".", ")")
	case kindAlternative:
		writeParts(w, c.L, "(", "|", ")")
	case kindStar:
		writeParts(w, c.L, "(", "", "*)")
	case kindGroup:
		writeParts(w, c.L, "("+strconv.Itoa(c.N)+":", "", ")")
	case kindRenewal:
		writeParts(w, c.L, "(~", "", ")")
	}
}

// writeSet writes the elements of s.
func writeSet(w *strings.Builder, s byteset.Set) {
	w.WriteByte('<')
	for _, b := range s.List() {
		w.WriteByte(hexDigits[b/16])
		w.WriteByte(hexDigits[b%16])
	}
	w.WriteByte('>')
}

// writeParts writes the texts of l with the marks before, between and after
// them.
func writeParts(w *strings.Builder, l []Core, before, between, after string) {
	mark := before
	for _, c := range l {
		w.WriteString(mark)
		writeCore(w, c)
		mark = between
	}
	w.WriteString(after)
}
